/-
  A round of SHA-256, step by step, in the spelling of a walk.
-/
import Derived.Test.YtjjeahijcibafaaDoorShaS
namespace Go.Proofs.YtjjeahijcibafaaDoor.ShaM
open Go

theorem and_w (a b : Nat) (ha : a < 4294967296) (hb : b < 4294967296) : bits .and .u32 (a : Int) (b : Int) = ((a &&& b : Nat) : Int) := u32_and_nat a b ha hb
theorem or_w (a b : Nat) (ha : a < 4294967296) (hb : b < 4294967296) : bits .or .u32 (a : Int) (b : Int) = ((a ||| b : Nat) : Int) := u32_or_nat a b ha hb
def Facts1 (e f g h kk ww nv x1 x2 y1 x3 x4 x5 y2 y3 t1 : Nat) : Prop :=
  bits .xor .u32 (tr 6 e : Int) (tr 11 e : Int) = (x1 : Int) ∧ bits .xor .u32 (x1 : Int) (tr 25 e : Int) = (x2 : Int) ∧ IntKind.u32.wrap ((h : Int) + (x2 : Int)) = (y1 : Int) ∧
  bits .and .u32 (e : Int) (f : Int) = (x3 : Int) ∧ IntKind.u32.wrap (4294967295 - (e : Int)) = (nv : Int) ∧ bits .and .u32 (nv : Int) (g : Int) = (x4 : Int) ∧ bits .or .u32 (x3 : Int) (x4 : Int) = (x5 : Int) ∧
  IntKind.u32.wrap ((y1 : Int) + (x5 : Int)) = (y2 : Int) ∧ IntKind.u32.wrap ((y2 : Int) + (kk : Int)) = (y3 : Int) ∧ IntKind.u32.wrap ((y3 : Int) + (ww : Int)) = (t1 : Int)
def Facts2 (a b c z1 z2 z3 z4 z5 z6 z7 t2 : Nat) : Prop :=
  bits .xor .u32 (tr 2 a : Int) (tr 13 a : Int) = (z1 : Int) ∧ bits .xor .u32 (z1 : Int) (tr 22 a : Int) = (z2 : Int) ∧ bits .and .u32 (a : Int) (b : Int) = (z3 : Int) ∧ bits .and .u32 (a : Int) (c : Int) = (z4 : Int) ∧
  bits .or .u32 (z3 : Int) (z4 : Int) = (z5 : Int) ∧ bits .and .u32 (b : Int) (c : Int) = (z6 : Int) ∧ bits .or .u32 (z5 : Int) (z6 : Int) = (z7 : Int) ∧ IntKind.u32.wrap ((z2 : Int) + (z7 : Int)) = (t2 : Int)
def Facts3 (d t1 t2 ne na : Nat) : Prop := IntKind.u32.wrap ((d : Int) + (t1 : Int)) = (ne : Int) ∧ IntKind.u32.wrap ((t1 : Int) + (t2 : Int)) = (na : Int)
theorem round_facts (a b c d e f g h kk ww : Nat) (ha : a < 4294967296) (hb : b < 4294967296) (hc : c < 4294967296) (he : e < 4294967296) (hf : f < 4294967296) (hg : g < 4294967296) :
    ∃ nv x1 x2 y1 x3 x4 x5 y2 y3 t1 z1 z2 z3 z4 z5 z6 z7 t2 ne na : Nat, Facts1 e f g h kk ww nv x1 x2 y1 x3 x4 x5 y2 y3 t1 ∧ Facts2 a b c z1 z2 z3 z4 z5 z6 z7 t2 ∧ Facts3 d t1 t2 ne na ∧
      ne < 4294967296 ∧ na < 4294967296 ∧ t1 < 4294967296 ∧ t2 < 4294967296 ∧ round ⟨a, b, c, d, e, f, g, h⟩ kk ww = ⟨na, a, b, c, ne, e, f, g⟩ := by
  have hn : IntKind.u32.wrap (4294967295 - (e : Int)) = ((4294967295 - e : Nat) : Int) := by rw [IntKind.wrap_u32]; omega
  have hx : (4294967295 - e) < 4294967296 := by omega
  refine ⟨_, _, _, _, _, _, _, _, _, _, _, _, _, _, _, _, _, _, _, _, ⟨xor_w _ _ (tr_lt _ _ he) (tr_lt _ _ he), xor_w _ _ (xor_lt (tr_lt _ _ he) (tr_lt _ _ he)) (tr_lt _ _ he), add_w _ _, and_w _ _ he hf, hn, and_w _ _ hx hg, or_w _ _ (and_lt he) (and_lt hx), add_w _ _, add_w _ _, add_w _ _⟩,
    ⟨xor_w _ _ (tr_lt _ _ ha) (tr_lt _ _ ha), xor_w _ _ (xor_lt (tr_lt _ _ ha) (tr_lt _ _ ha)) (tr_lt _ _ ha), and_w _ _ ha hb, and_w _ _ ha hc, or_w _ _ (and_lt ha) (and_lt ha), and_w _ _ hb hc, or_w _ _ (or_lt (and_lt ha) (and_lt ha)) (and_lt hb), add_w _ _⟩,
    ⟨add_w _ _, add_w _ _⟩, a32_lt _ _, a32_lt _ _, a32_lt _ _, a32_lt _ _, ?_⟩
  rfl
end Go.Proofs.YtjjeahijcibafaaDoor.ShaM
