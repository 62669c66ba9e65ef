/-
  Layer 20: what the laws know of a change that is an argument.
-/
import Derived.Test.YtbnkahjmeobblaaZm35
import Derived.Test.YtbnkahjmeobblaaZm36
import Derived.Test.YtbnkahjmeobblaaZm39
import Derived.Test.YtbnkahjmeobblaaAcE
namespace Go.Proofs.Ytbnkahjmeobblaa
open Go.RowKit Mem Go.Lib LebM UtfM AcM OpM HeM
set_option linter.unusedVariables false

theorem Hsh.lt {w : World} {A : Option Addr} {n : Nat} {L : List Tx} (h : Hsh w A n L) (hn : 0 < n) (ad : Addr) (e : A = some ad) : ad.block < w.heap.size := by
  obtain ⟨x, hx⟩ : ∃ x, L[0]? = some x := ⟨_, List.getElem?_eq_getElem (by have := h.1; omega)⟩
  obtain ⟨g, o, e', hg, _⟩ := h.2.2 0 x hx
  rw [e] at e'
  injection e' with e'
  rw [e']
  exact hg
theorem Hsh.frp {S : Nat → Prop} {w w' : World} {A : Option Addr} {n : Nat} {L : List Tx} (h : Hsh w A n L) (hf : Fr S w w') (hS : 0 < n → ∀ ad, A = some ad → ¬ S ad.block) : Hsh w' A n L :=
  ⟨h.1, h.2.1, fun k x hk => by
    obtain ⟨g, o, e, hg, hr⟩ := h.2.2 k x hk
    have hn : 0 < n := by have := h.1; have := (List.getElem?_eq_some_iff.1 hk).1; omega
    exact ⟨g, o, e, Nat.lt_of_lt_of_le hg hf.size, range_fr hr hf (hS hn ⟨g, o, none⟩ e)⟩⟩
theorem ChOk.fr {w w' : World} {ch : Ch} {A A6 : Option Addr} {n6 : Nat} {L : List Om} (h : ChOk w ch A A6 n6 L) (hf : Fr (fun _ => False) w w') : ChOk w' ch A A6 n6 L :=
  ⟨h.hd.fr hf, h.hL.fr hf, h.la, h.lm, h.ld, h.ln, h.lens, h.t0, h.t1⟩
/-- what a change is that has few ops, and short texts -/
structure Short (ch : Ch) (n6 : Nat) (L : List Om) : Prop where
  n : n6 ≤ 30
  a : ch.a.length ≤ 100
  m : ch.m.length ≤ 2000
  d : ch.d.length ≤ 40
  ok : ∀ x ∈ L, x.short ∧ x.o.pr.length ≤ 1000
  nl : (namesM L).length ≤ 40080
  ns : ∀ y ∈ namesM L, y.a.length ≤ 1000000
theorem short_of {w : World} {ch : Ch} {A A6 : Option Addr} {n6 : Nat} {L : List Om} (h : ChOk w ch A A6 n6 L) (hf : fewH ch n6 L = true) : Short ch n6 L := by
  unfold fewH at hf
  simp only [Bool.and_eq_true, decide_eq_true_eq] at hf
  obtain ⟨h1, h2, h3, h4, h5⟩ := hf
  have hs := few_short h5
  have hok : ∀ x ∈ L, x.short ∧ x.o.pr.length ≤ 1000 := fun x hx => ⟨(hs x hx).1, by have := (hs x hx).2; omega⟩
  refine ⟨h4, h1, h2, h3, hok, ?_, names_short (fun x hx => (hok x hx).1)⟩
  have h6 := namesM_len (L := L) (fun x hx => (hok x hx).2)
  have h7 := h.hL.len
  omega
theorem Short.tab {ch : Ch} {n6 : Nat} {L : List Om} (h : Short ch n6 L) : (tabA ch.a (namesM L)).length ≤ 40081 ∧ ∀ x ∈ tabA ch.a (namesM L), x.length ≤ 1000000 := by
  refine ⟨?_, fun x hx => ?_⟩
  · have h1 := others_len ch.a (namesM L)
    have h2 := h.nl
    unfold tabA
    rw [List.length_cons]
    omega
  · rcases List.mem_cons.1 hx with rfl | hx
    · have := h.a; omega
    · obtain ⟨_, y, hy, rfl⟩ := (others_mem ch.a _ x).1 hx
      exact h.ns y hy
/-- what the table is, if all of whom ops speak are actors -/
structure TabOk (a : Tx) (L : List Om) (O : List Tx) : Prop where
  eq : tabA a (namesM L) = a :: O
  rise : Rise O
  na : a ∉ O
  len : ∀ x ∈ O, 1 ≤ x.length ∧ x.length ≤ 16
  n : O.length ≤ 40080
theorem tab_of {ch : Ch} {n6 : Nat} {L : List Om} (h : Short ch n6 L) (hs : spokenB L = true) : TabOk ch.a L (othersA ch.a (namesM L)) := by
  refine ⟨rfl, others_rise _ _, fun h => ((others_mem ch.a _ ch.a).1 h).1 rfl, fun x hx => ?_, Nat.le_trans (others_len _ _) h.nl⟩
  obtain ⟨_, y, hy, rfl⟩ := (others_mem ch.a _ x).1 hx
  have h1 := List.all_eq_true.1 hs y hy
  unfold actorB at h1
  simp only [Bool.and_eq_true, decide_eq_true_eq] at h1
  omega
theorem put_bd {ch : Ch} {O : List Tx} (hr : rightH ch = true) (h32 : ∀ h ∈ ch.d, h.length = 32) (ht0 : -9223372036854775808 ≤ ch.t) (ht1 : ch.t < 9223372036854775808) (hl : ∀ x ∈ O, 1 ≤ x.length ∧ x.length ≤ 16) (hn : O.length ≤ 40080) :
    (putA (ch.a :: O)).length ≤ 1100000 ∧ (putH ch (ch.a :: O)).length ≤ 1200000 ∧ 1 ≤ (putH ch (ch.a :: O)).length := by
  obtain ⟨⟨a0, a1⟩, ⟨q0, q1⟩, ⟨s0, s1⟩, m1, mw, d1, dr⟩ := right_parts hr
  have h1 := put_len16 (a := ch.a) hl (by omega)
  have h2 := flat_len32 ch.d h32
  have h3 := u_len10 (show ch.d.length < 18446744073709551616 by omega)
  have h4 := u_len10 (show ch.a.length < 18446744073709551616 by omega)
  have h5 := u_len10 (show ch.q.toNat < 18446744073709551616 by omega)
  have h6 := u_len10 (show ch.s.toNat < 18446744073709551616 by omega)
  have h7 := s_len10 ht0 ht1
  have h8 := u_len10 (show ch.m.length < 18446744073709551616 by omega)
  refine ⟨by omega, ?_, ?_⟩
  · unfold putH headT
    simp only [List.length_append]
    omega
  · unfold putH headT
    simp only [List.length_append]
    omega
end Go.Proofs.Ytbnkahjmeobblaa
