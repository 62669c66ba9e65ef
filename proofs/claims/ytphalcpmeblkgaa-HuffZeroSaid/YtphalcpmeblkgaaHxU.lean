/-
  The library's heap over the program's nodes: how a method is reached; sifting down.
-/
import Derived.Test.YtphalcpmeblkgaaHxT
namespace Go.Proofs.Ytphalcpmeblkgaa
open Go.RowKit HuffM Mem Go.Lib
attribute [local go_sem ↓] Go.wp_at_zero Go.wp_at_succ

theorem wrapnil (x t : TypeId) (a : Addr) (s u : ByteArray) : Builtin.ssaWrapNilChk_ #[x] t #[.pointer (some a), .string s, .string u] = pure (.pointer (some a)) := rfl
noncomputable def meth? (nm : String) : Option (Option (Option (FuncId × Bool) × Nat)) := (Try.prog.info? 61).map fun i => (i.methods.find? (·.name == nm)).map fun m => (m.func, m.path.size)
set_option maxRecDepth 100000 in
theorem meth_val (fuel : Nat) (nm : String) (f : FuncId) (hi : meth? nm = some (some (some (f, false), 0))) (b n c : Nat) (A : Option Addr) (w : World) (h : w.cell? ⟨b, 0, none⟩ = some (.slice A n c)) :
    Sem.run Try.prog (method (fuel + 1) 61 (.pointer (some ⟨b, 0, none⟩)) nm) w = .ok (f, .slice A n c) w := by
  unfold meth? at hi
  cases hq : Try.prog.info? 61 with
  | none => rw [hq] at hi; simp at hi
  | some i =>
    rw [hq] at hi
    cases hm : i.methods.find? (·.name == nm) with
    | none => simp [hm] at hi
    | some m =>
      simp [hm] at hi
      obtain ⟨h1, h2⟩ := hi
      unfold method
      simp [typeInfo, hq, hm, h1, h2, follow, receiverAt, run_underlying Try.underlying61, Place.get, strVal, wrapnil, go_sem, h]
set_option maxRecDepth 100000 in
theorem meth_ptr (fuel : Nat) (nm : String) (f : FuncId) (hi : meth? nm = some (some (some (f, true), 0))) (b : Nat) (w : World) :
    Sem.run Try.prog (method (fuel + 1) 61 (.pointer (some ⟨b, 0, none⟩)) nm) w = .ok (f, .pointer (some ⟨b, 0, none⟩)) w := by
  unfold meth? at hi
  cases hq : Try.prog.info? 61 with
  | none => rw [hq] at hi; simp at hi
  | some i =>
    rw [hq] at hi
    cases hm : i.methods.find? (·.name == nm) with
    | none => simp [hm] at hi
    | some m =>
      simp [hm] at hi
      obtain ⟨h1, h2⟩ := hi
      unfold method
      simp [typeInfo, hq, hm, h1, h2, follow, receiverAt, run_underlying Try.underlying61, Place.get, go_sem]
set_option maxRecDepth 100000 in
theorem i_len : meth? "Len" = some (some (some (30, false), 0)) := by kernel_rfl
set_option maxRecDepth 100000 in
theorem i_less : meth? "Less" = some (some (some (63, false), 0)) := by kernel_rfl
set_option maxRecDepth 100000 in
theorem i_swap : meth? "Swap" = some (some (some (64, false), 0)) := by kernel_rfl
set_option maxRecDepth 100000 in
theorem i_pop : meth? "Pop" = some (some (some (65, true), 0)) := by kernel_rfl
set_option maxRecDepth 100000 in
theorem i_push : meth? "Push" = some (some (some (66, true), 0)) := by kernel_rfl

/-- the heap's variable lies in block b, its nodes in a row of one's own, in a block of G -/
def Hs (w : World) (b : Nat) (G : Nat → Prop) (l : List Nd) : Prop := ¬ G b ∧ ∃ A c, w.heap[b]? = some (.cells #[.slice A l.length c] 56 (0, 0)) ∧ w.ownsRow 0 59 2 (.slice A l.length c) l.length (cellsN l) ∧ ∀ k, (Value.slice A l.length c).ownBlock = some k → G k
theorem Hs.fr {S : Nat → Prop} {w w' : World} {b : Nat} {G : Nat → Prop} {l : List Nd} (h : Hs w b G l) (hf : Fr S w w') (hb : ¬ S b) (hS : ∀ k, G k → ¬ S k) : Hs w' b G l := by
  obtain ⟨h0, A, c, h1, h2, h3⟩ := h
  exact ⟨h0, A, c, hf.blk h1 hb, hf.own h2 (fun k hk => hS k (h3 k hk)), h3⟩
theorem Hs.mono {w : World} {b : Nat} {G H : Nat → Prop} {l : List Nd} (h : Hs w b G l) (hG : ∀ k, k < w.heap.size → G k → H k) (hb : ¬ H b) : Hs w b H l := by
  obtain ⟨_, A, c, h1, h2, h3⟩ := h
  exact ⟨hb, A, c, h1, h2, fun k hk => hG k (h2.lt k hk).2 (h3 k hk)⟩
theorem Hs.lt {w : World} {b : Nat} {G : Nat → Prop} {l : List Nd} (h : Hs w b G l) : b < w.heap.size := by
  obtain ⟨_, A, c, h1, _⟩ := h
  exact lt_of_heap h1
theorem Hs.draw {w : World} {b : Nat} {G : Nat → Prop} {l : List Nd} (h : Hs w b G l) (q : Nat) : Hs (w.drewN q) b G l := h
theorem Hs.row {w : World} {b : Nat} {G : Nat → Prop} {l : List Nd} (h : Hs w b G l) (hl : 0 < l.length) : ∃ g c, G g ∧ b ≠ g ∧ w.heap[b]? = some (.cells #[.slice (some ⟨g, 0, none⟩) l.length c] 56 (0, 0)) ∧ Nods w g c l := by
  obtain ⟨h0, A, c, h1, h2, h3⟩ := h
  obtain ⟨g, rfl, hb, hn⟩ := nods_of_own h2 hl
  have hg := h3 g rfl
  exact ⟨g, c, hg, fun e => h0 (e ▸ hg), h1, hn⟩
theorem Hs.mk {w : World} {b g c n : Nat} {G : Nat → Prop} {l : List Nd} (hb : G g) (h0 : ¬ G b) (hn : n = l.length) (h1 : w.heap[b]? = some (.cells #[.slice (some ⟨g, 0, none⟩) n c] 56 (0, 0))) (h2 : Nods w g c l) : Hs w b G l := by
  subst hn
  exact ⟨h0, _, c, h1, own_of_nods h2 (Nat.zero_le _), fun k hk => by
    obtain rfl : g = k := by simpa [Value.ownBlock] using hk
    exact hb⟩
end Go.Proofs.Ytphalcpmeblkgaa
