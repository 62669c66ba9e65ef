/-
  What layer 9's walks stand on: the tables of syms and codes.
  A Writer in other worlds: what is new is not its own; one number is put.
  Layer 9's program: how a block begins.
  Layer 8's program: repeat.
  The program's Right: whether there is a code of lengths.
  Plain mathematics of a stable sort by swaps: what a swap does to a list in pieces; the order by keys, then by numbers. Nothing of any program here.
-/
import Derived.Test.YtahfmcdhcbfkaaaGreatDoorZm22
import Derived.Test.YtahfmcdhcbfkaaaGreatDoorWr
import Derived.Test.YtahfmcdhcbfkaaaGreatDoorZm02
import Derived.Test.YtahfmcdhcbfkaaaGreatDoorCoB
import Derived.Test.YtahfmcdhcbfkaaaGreatDoorZm04
import Derived.Test.YtahfmcdhcbfkaaaGreatDoorZm08
import Derived.StillTailTactics
import Derived.Deep.DeepCutAuto
import Derived.Deep.QuietTactic
import Derived.BigQuiet
import Derived.Test.YtahfmcdhcbfkaaaGreatDoorZm00
namespace Go.Proofs.YtahfmcdhcbfkaaaGreatDoor
open Mem
/-- the tables of syms and codes lie in their variables -/
def Gl9 (w : World) : Prop := Gl w ∧ Gl8 w
theorem Gl9.fr0 {w w' : World} (h : Gl9 w) (hf : Fr (fun _ => False) w w') : Gl9 w' := ⟨h.1.fr0 hf, h.2.fr0 hf⟩
end Go.Proofs.YtahfmcdhcbfkaaaGreatDoor
namespace Go.Proofs.YtahfmcdhcbfkaaaGreatDoor
open Go.RowKit BitsM Mem Go.Lib
set_option linter.unusedVariables false
set_option maxRecDepth 100000

theorem Wr.frA {S : Nat → Prop} {w w' : World} {g c : Nat} {A : Option Addr} {bs : List Bool} (h : Wr w g A c bs) (hf : Fr S w w') (hg : ¬ S g) (hA : ∀ k, bl A = some k → ¬ S k) : Wr w' g A c bs :=
  ⟨hf.blk h.1 hg, hf.own h.2 (fun k hk => hA k (by rw [bl_own] at hk; exact hk))⟩
theorem Wr.lt {w : World} {g c : Nat} {A : Option Addr} {bs : List Bool} (h : Wr w g A c bs) : g < w.heap.size ∧ ∀ k, bl A = some k → k < w.heap.size :=
  ⟨lt_of_heap h.1, fun k hk => (h.2.lt k (by rw [bl_own]; exact hk)).2⟩
/-- a new block is not the Writer's -/
theorem Wr.new {w : World} {g c k : Nat} {A : Option Addr} {bs : List Bool} (h : Wr w g A c bs) (hk : w.heap.size ≤ k) : ¬ Ft g A k := by
  intro hf
  rcases hf with hf | hf
  · have := h.lt.1; omega
  · have := h.lt.2 k hf; omega
/-- what was not the Writer's, and is older, is not now -/
theorem Nx.old {w : World} {g k : Nat} {A A' : Option Addr} (h : Nx w A A') (hk : k < w.heap.size) (hn : ¬ Ft g A k) : ¬ Ft g A' k := by
  intro hf
  rcases hf with hf | hf
  · exact hn (.inl hf)
  · rcases h with h | ⟨b, h, hb⟩
    · exact hn (.inr (h ▸ hf))
    · rw [h] at hf
      injection hf with hf
      omega
/-- one number is put -/
theorem put1_any (g c : Nat) (A : Option Addr) (n x : Nat) (bs : List Bool) (w3 : World) (hw : Wr w3 g A c bs) (hb : bs.length ≤ 3000000000) (hn : n ≤ 64) (hx : x < 18446744073709551616) :
    Calls Tryz.prog 48 #[.pointer (some ⟨g, 0, none⟩), .int .i64 (n : Int), .slice (some ⟨w3.heap.size, 0, none⟩) 1 1] (w3.alloc (.cells #[.int .u64 (x : Int)] 46)) fun e w' => e = .returned (.tuple #[]) ∧ ∃ A' c', Wr w' g A' c' (bs ++ low x n) ∧ Fr (Ft g A) w3 w' ∧ Nx w3 A A' := by
  have h := put_any g c A (some ⟨w3.heap.size, 0, none⟩) 1 1 (n : Int) bs [x] _ (hw.frA ((Fr.refl (fun _ => False) w3).alloc _) (fun h => h) (fun _ _ h => h)) (by omega) (Rd.one w3 (.int .u64 (x : Int)) 46) (fun y hy => by simp at hy; omega) (by omega) (fun ad h => by injection h with h; subst h; exact hw.new (Nat.le_refl _))
  rw [Int.toNat_natCast, List.flatMap_cons, List.flatMap_nil, List.append_nil, Nat.min_eq_left hn] at h
  refine h.mono ?_
  rintro e w5 ⟨rfl, A5, c5, hw5, hf5, hn5⟩
  refine ⟨rfl, A5, c5, hw5, ((Fr.refl (fun _ => False) w3).alloc _).mono (fun _ _ h => h.elim) |>.trans hf5 (fun _ _ h => h), ?_⟩
  rcases hn5 with h | ⟨b, h, hb⟩
  · exact .inl h
  · exact .inr ⟨b, h, by simp at hb; omega⟩
/-- what a call that turned nothing leaves of a Writer -/
theorem Fr.none {S : Nat → Prop} {w w' : World} (h : Fr (fun _ => False) w w') : Fr S w w' := h.mono (fun _ _ h => h.elim)
theorem Nx.back {w w' : World} {A A' : Option Addr} (h : Nx w' A A') (hs : w.heap.size ≤ w'.heap.size) : Nx w A A' := by
  rcases h with h | ⟨b, h, hb⟩
  · exact .inl h
  · exact .inr ⟨b, h, Nat.le_trans hs hb⟩
end Go.Proofs.YtahfmcdhcbfkaaaGreatDoor
namespace Go.Proofs.YtahfmcdhcbfkaaaGreatDoor
open Go.RowKit BitsM Mem Go.Lib
attribute [local go_sem ↓] Go.wp_at_zero Go.wp_at_succ
set_option linter.unusedVariables false
set_option maxRecDepth 100000

theorem blockSize : (Tryz.prog.info? 30).map (·.size) = some 1 := by kernel_rfl
set_option maxHeartbeats 1600000 in
theorem begin9_any (g c : Nat) (A : Option Addr) (bs : List Bool) (last kind : Nat) (w : World) (hw : Wr w g A c bs) (hb : bs.length ≤ 2000000000) (hl : last < 18446744073709551616) (hk : kind < 18446744073709551616) :
    Calls Tryz.prog 24 #[.pointer (some ⟨g, 0, none⟩), .int .u64 (last : Int), .int .u64 (kind : Int)] w fun e w' => e = .returned (.agg #[.pointer (some ⟨g, 0, none⟩)]) ∧ ∃ A' c', Wr w' g A' c' (bs ++ low last 1 ++ low kind 2) ∧ Fr (Ft g A) w w' ∧ Nx w A A' := by
  have HB := Lib.hid hb
  have HLK := Lib.hid (And.intro hl hk)
  obtain ⟨w0, hw0⟩ : ∃ w0, w0 = w.alloc (.cells #[Value.pointer none] 30) := ⟨_, rfl⟩
  obtain ⟨p, hp⟩ : ∃ p, p = w.heap.size := ⟨_, rfl⟩
  obtain ⟨q, hq⟩ : ∃ q, q = p + 1 := ⟨_, rfl⟩
  have hr0 : Row w0 p 30 [Value.pointer none] := by rw [hw0, hp]; exact Row.new w _ _
  have hf0 : Fr (fun _ => False) w w0 := by rw [hw0]; exact (Fr.refl _ w).alloc _
  have hq0 : w0.heap.size = q := by rw [hw0, hq, hp]; simp
  have hW0 := hw.frA hf0 (fun h => h) (fun _ _ h => h)
  obtain ⟨w1, hw1⟩ : ∃ w1, w1 = w0.alloc (.cells #[Value.pointer (some ⟨g, 0, none⟩)] 30) := ⟨_, rfl⟩
  have hr1 : Row w1 q 30 [Value.pointer (some ⟨g, 0, none⟩)] := by rw [hw1, ← hq0]; exact Row.new w0 _ _
  have hp1 : Row w1 p 30 [Value.pointer none] := by rw [hw1]; exact hr0.alloc _
  have hf01 : Fr (fun _ => False) w0 w1 := by rw [hw1]; exact (Fr.refl _ w0).alloc _
  have hf1 : Fr (fun _ => False) w w1 := hf0.trans hf01 (fun _ _ h => h)
  have HPN := Lib.hid (hw.new (k := p) (by omega))
  have HQN := Lib.hid (hw.new (k := q) (by omega))
  have HW1 := Lib.hid (hw.frA hf1 (fun h => h) (fun _ _ h => h))
  have HF1 := Lib.hid hf1
  have HR1 := Lib.hid hr1
  have HP1 := Lib.hid hp1
  have HPL := Lib.hid (And.intro hp1.lt hr1.lt)
  have HQP : Hid (p ≠ q) := Lib.hid (by omega)
  have HPB : Hid (w.heap.size ≤ p) := Lib.hid (by omega)
  have c1 : w1.cell? ⟨q, 0, none⟩ = some (.pointer (some ⟨g, 0, none⟩)) := hr1.cell rfl
  have HPU1 : Hid (Calls Tryz.prog 48 #[.pointer (some ⟨g, 0, none⟩), .int .i64 1, .slice (some ⟨w1.heap.size, 0, none⟩) 1 1] (w1.alloc (.cells #[.int .u64 (last : Int)] 46)) fun e w' => e = .returned (.tuple #[]) ∧ ∃ A' c', Wr w' g A' c' (bs ++ low last 1) ∧ Fr (Ft g A) w1 w' ∧ Nx w1 A A') :=
      Lib.hid (put1_any g c A 1 last bs w1 HW1.out (by have := HB.out; omega) (by omega) HLK.out.1)
  clear hW0 hw hb hl hk hr0 hf0 hq0 hr1 hp1 hf01 hf1
  go_enter Tryz.func24, Tryz.ntmps24
  go_upto_region 1 with fail
  go_upto_region 2 with fail
  rw [← hw0, ← hw1, ← hp, ← hq]
  clear hw0 hw1 hp hq
  go_wp2_with fail
  refine HPU1.out.mono ?_
  rintro e w2 ⟨rfl, A2, c2, hw2, hf2, hn2⟩
  have hr2 := Row.fr HR1.out hf2 HQN.out
  have c2' : w2.cell? ⟨q, 0, none⟩ = some (.pointer (some ⟨g, 0, none⟩)) := hr2.cell rfl
  have HR2 := Lib.hid hr2
  have HP2 := Lib.hid (Row.fr HP1.out hf2 HPN.out)
  have HF2 := Lib.hid hf2
  have HN2 := Lib.hid hn2
  have HNP := Lib.hid (And.intro (hn2.old HPL.out.1 HPN.out) (hn2.old HPL.out.2 HQN.out))
  have HPU2 : Hid (Calls Tryz.prog 48 #[.pointer (some ⟨g, 0, none⟩), .int .i64 2, .slice (some ⟨w2.heap.size, 0, none⟩) 1 1] (w2.alloc (.cells #[.int .u64 (kind : Int)] 46)) fun e w' => e = .returned (.tuple #[]) ∧ ∃ A' c', Wr w' g A' c' (bs ++ low last 1 ++ low kind 2) ∧ Fr (Ft g A2) w2 w' ∧ Nx w2 A2 A') :=
      Lib.hid (put1_any g c2 A2 2 kind (bs ++ low last 1) w2 hw2 (by rw [List.length_append, low_length]; have := HB.out; omega) (by omega) HLK.out.2)
  clear HPU1 hw2 hf2 hn2 hr2 c1
  go_wp2_with fail
  refine HPU2.out.mono ?_
  rintro e w3 ⟨rfl, A3, c3, hw3, hf3, hn3⟩
  have hr3 := Row.fr HR2.out hf3 HNP.out.2
  have hp3 := Row.fr HP2.out hf3 HNP.out.1
  have c3' : w3.cell? ⟨q, 0, none⟩ = some (.pointer (some ⟨g, 0, none⟩)) := hr3.cell rfl
  have cp3 : w3.cell? ⟨p, 0, none⟩ = some (.pointer none) := hp3.cell rfl
  have fp3 := hp3.free 0
  have HP3 := Lib.hid hp3
  have HF3 := Lib.hid ((HF1.out.mono (fun _ _ h => h.elim)).trans (Fr.next HF2.out HN2.out hf3) (fun _ _ h => h))
  have HN3 := Lib.hid ((HN2.out.trans hn3 HF2.out.size).back HF1.out.size)
  have HW3 := Lib.hid hw3
  have HNP3 := Lib.hid (hn3.old (Row.lt HP2.out) HNP.out.1)
  clear HPU2 hw3 hf3 hn3 hr3 hp3 c2'
  go_wp2_with fail
  have hr4 := HP3.out.set 0 (.pointer (some ⟨g, 0, none⟩))
  have hf4 := Fr.set1 w3 p 0 (.pointer (some ⟨g, 0, none⟩))
  obtain ⟨w4, hw4⟩ : ∃ w4, w4 = w3.setCell ⟨p, 0, none⟩ (.pointer (some ⟨g, 0, none⟩)) := ⟨_, rfl⟩
  rw [← hw4] at hr4 hf4 ⊢
  have d0 : w4.cell? ⟨p, 0, none⟩ = some (.pointer (some ⟨g, 0, none⟩)) := hr4.cell rfl
  have HW4 := Lib.hid (HW3.out.frA hf4 (fun h => HNP3.out (.inl h.symm)) (fun k hk h => HNP3.out (.inr (by rw [hk, h]))))
  have HF4 := Lib.hid (HF3.out.trans hf4 (fun b hb h => by have := HPB.out; omega))
  clear hr4 hf4 c3' cp3 fp3 hw4
  exact bodyPost_ret (v := .agg #[.pointer (some ⟨g, 0, none⟩)]) (by simp [results, Tryz.results24, go_sem, d0]) rfl ⟨rfl, A3, c3, HW4.out, HF4.out, HN3.out⟩
end Go.Proofs.YtahfmcdhcbfkaaaGreatDoor
namespace Go.Proofs.YtahfmcdhcbfkaaaGreatDoor
open Go.RowKit CoM Mem Go.Lib
attribute [local go_sem ↓] Go.wp_at_zero Go.wp_at_succ
set_option linter.unusedVariables false

theorem itmSz : (Tryz.prog.info? 125).map (·.size) = some 3 := by kernel_rfl
theorem itm_one (a b c : Nat) : [Value.int .i64 (a : Int), .int .i64 (b : Int), .int .u64 (c : Int)].toArray.all (·.oneCell') = true := by simp [Value.oneCell']
def itv (t : It) : Value := .agg #[.int .i64 (t.s : Int), .int .i64 (t.b : Int), .int .u64 (t.x : Int)]
theorem spn_le {k a b c : Nat} (h : spn[k]? = some (a, b, c)) : a ≤ b ∧ b ≤ 138 ∧ c ≤ 7 ∧ 3 ≤ a ∧ b < a + 2 ^ c := by
  match k, h with
  | 0, h => simp [spn] at h; obtain ⟨rfl, rfl, rfl⟩ := h; decide
  | 1, h => simp [spn] at h; obtain ⟨rfl, rfl, rfl⟩ := h; decide
  | 2, h => simp [spn] at h; obtain ⟨rfl, rfl, rfl⟩ := h; decide
  | k + 3, h => simp [spn] at h
set_option maxRecDepth 100000 in
set_option maxHeartbeats 1600000 in
theorem repeat_any (s k a b c n m : Nat) (hk : s = 16 + k) (h : spn[k]? = some (a, b, c)) (hn : a ≤ n) (hn2 : n ≤ 1000000) (hm : m = min n b) (w : World) (hG : GlS w) :
    Calls Tryz.prog 93 #[.int .i64 (s : Int), .int .i64 (n : Int)] w fun e w' => e = .returned (.tuple #[itv ⟨s, c, m - a⟩, .int .i64 (m : Int)]) ∧ Fr (fun _ => False) w w' := by
  obtain ⟨b1, b2, b3, b4, b5⟩ := spn_le h
  obtain ⟨x, hx⟩ : ∃ x, x = m - a := ⟨_, rfl⟩
  have hxi : (m : Int) - (a : Int) = (x : Int) := by omega
  have hxw : IntKind.i64.wrap ((m : Int) - (a : Int)) = (x : Int) := by rw [IntKind.wrap_i64]; omega
  have hxu : IntKind.u64.wrap ((m : Int) - (a : Int)) = (x : Int) := by unfold IntKind.wrap; simp [IntKind.bits, IntKind.signed]; omega
  have q1 := run_min8 (n : Int) (b : Int) (m : Int) (by omega)
  have q2 := conv_u64 x (by omega)
  have hsp : ∀ w, GlS w → Calls Tryz.prog 92 #[.int .i64 (s : Int)] w fun e w' => e = .returned (.agg #[.int .i64 (a : Int), .int .i64 (b : Int), .int .i64 (c : Int)]) ∧ Fr (fun _ => False) w w' := fun w hG => spanOf_any s k a b c hk h w hG
  have HSP := Lib.hid hsp
  have hmb : m ≤ 138 := by omega
  have HG := Lib.hid hG
  unfold itv
  simp only
  rw [← hx]
  clear hsp hG h hk hm hx b1 b2 b3 b4 b5 hn
  go_enter Tryz.func93, Tryz.ntmps93
  go_upto_region 1 with fail
  obtain ⟨w1, hw1⟩ : ∃ w1, w1 = w.alloc (.cells #[Value.int .i64 0, .int .i64 0, .int .u64 0] 125) := ⟨_, rfl⟩
  have hr1 : Row w1 w.heap.size 125 [Value.int .i64 0, .int .i64 0, .int .u64 0] := by rw [hw1]; exact Row.new w _ _
  have hf1 : Fr (fun _ => False) w w1 := by rw [hw1]; exact (Fr.refl _ w).alloc _
  obtain ⟨r, hr⟩ : ∃ r, r = w.heap.size := ⟨_, rfl⟩
  rw [← hw1]
  rw [← hr] at hr1 ⊢
  have HF1 := Lib.hid hf1
  have HR1 := Lib.hid hr1
  have HRW : Hid (w.heap.size ≤ r) := Lib.hid (by omega)
  have HG1 := Lib.hid (HG.out.fr0 hf1)
  clear hw1 hf1 hr1 hr
  go_wp2_with (first
    | (refine (HSP.out w1 HG1.out).mono ?_
       rintro e w2 ⟨rfl, hf2⟩
       have HF2 := Lib.hid (HF1.out.trans hf2 (fun _ _ h => h))
       have HR2 := Lib.hid (HR1.out.fr hf2 (fun h => h))
       clear hf2)
    | (refine store_st itmSz rfl (.tmp 4) (.tmp 21) rfl r (by rfl) [.int .i64 (s : Int), .int .i64 (c : Int), .int .u64 (x : Int)] (by rfl) _ _ (HR2.out.alloc _) rfl rfl (itm_one s c x) ?_
       intro w4 hr4 hf4
       have HR4 := Lib.hid hr4
       have HF4 := Lib.hid ((HF2.out.alloc _).trans hf4 (fun b hb h => by have := HRW.out; omega))
       clear hr4 hf4))
  have d0 : w4.cell? ⟨r, 0, none⟩ = some (.int .i64 (s : Int)) := HR4.out.cell rfl
  have d1 : w4.cell? ⟨r, 1, none⟩ = some (.int .i64 (c : Int)) := HR4.out.cell rfl
  have d2 : w4.cell? ⟨r, 2, none⟩ = some (.int .u64 (x : Int)) := HR4.out.cell rfl
  go_wp2_with fail
  exact bodyPost_ret (v := .tuple #[.agg #[.int .i64 (s : Int), .int .i64 (c : Int), .int .u64 (x : Int)], .int .i64 (m : Int)]) (by simp [results, Tryz.results93, go_sem, d0, d1, d2]) rfl ⟨rfl, HF4.out⟩
end Go.Proofs.YtahfmcdhcbfkaaaGreatDoor
namespace Go.Proofs.YtahfmcdhcbfkaaaGreatDoor
open Go.RowKit HuffM Mem Go.Lib

namespace HuffM
theorem many_zero {L : List Int} (h : many L = 0) : rsum L = 0 ∧ ones L = 0 := by
  induction L with
  | nil => exact ⟨rfl, rfl⟩
  | cons x L ih =>
    unfold many at h
    rw [List.countP_cons] at h
    have hx : ¬ 0 < x := by
      intro hx
      rw [if_pos (by simpa using hx)] at h
      omega
    have h' : many L = 0 := by unfold many; omega
    obtain ⟨h1, h2⟩ := ih h'
    constructor
    · show kr x + rsum L = 0
      rw [h1, kr, if_neg hx]
    · unfold ones at h2 ⊢
      rw [List.countP_cons, h2, if_neg (by simp; omega)]
theorem many_one {L : List Int} (hL : L.all inR = true) (h : many L = 1) : ∃ x : Int, 0 < x ∧ x ≤ 15 ∧ rsum L = kr x ∧ ones L = if x = 1 then 1 else 0 := by
  induction L with
  | nil => simp [many] at h
  | cons x L ih =>
    rw [List.all_cons, Bool.and_eq_true] at hL
    have hxr : 0 ≤ x ∧ x ≤ 15 := by simpa [inR] using hL.1
    unfold many at h
    rw [List.countP_cons] at h
    by_cases hx : 0 < x
    · rw [if_pos (by simpa using hx)] at h
      obtain ⟨h1, h2⟩ := many_zero (L := L) (by unfold many; omega)
      refine ⟨x, hx, hxr.2, ?_, ?_⟩
      · show kr x + rsum L = kr x
        rw [h1, Nat.add_zero]
      · unfold ones at h2 ⊢
        rw [List.countP_cons, h2]
        by_cases h1 : x = 1
        · rw [if_pos (by simpa using h1), if_pos h1]
        · rw [if_neg (by simpa using h1), if_neg h1]
    · rw [if_neg (by simpa using hx)] at h
      obtain ⟨y, h1, h2, h3, h4⟩ := ih hL.2 (by unfold many; omega)
      refine ⟨y, h1, h2, ?_, ?_⟩
      · show kr x + rsum L = kr y
        rw [h3, show kr x = 0 from by rw [kr, if_neg hx], Nat.zero_add]
      · rw [← h4]
        unfold ones
        rw [List.countP_cons, if_neg (by simp; omega), Nat.add_zero]
theorem right_sum {L : List Int} (hL : L.all inR = true) : rightB L = (rsum L == 32768 || (many L == 1 && rsum L == 16384)) := by
  unfold rightB
  rw [hL, Bool.true_and]
  congr 1
  by_cases h : many L = 1
  · obtain ⟨x, h1, h2, h3, h4⟩ := many_one hL h
    rw [h3, h4]
    congr 1
    obtain ⟨n, rfl⟩ := Int.eq_ofNat_of_zero_le (show 0 ≤ x by omega)
    have hn : n = 1 ∨ n = 2 ∨ n = 3 ∨ n = 4 ∨ n = 5 ∨ n = 6 ∨ n = 7 ∨ n = 8 ∨ n = 9 ∨ n = 10 ∨ n = 11 ∨ n = 12 ∨ n = 13 ∨ n = 14 ∨ n = 15 := by omega
    rcases hn with h | h | h | h | h | h | h | h | h | h | h | h | h | h | h <;> subst h <;> decide
  · rw [show (many L == 1) = false by simpa using h, Bool.false_and, Bool.false_and]
end HuffM

set_option maxRecDepth 100000 in
set_option maxHeartbeats 1600000 in
theorem pRight_any (A : Option Addr) (n c : Nat) (L : List Int) (w : World) (hr : Rd w A n (L.map intc)) (hn : n ≤ 1000) :
    Calls Tryz.prog 77 #[.slice A n c] w fun e w' => e = .returned (.bool (rightB L)) ∧ w = w' := by
  have hln : L.length = n := by simpa using hr.1
  have HR := Lib.hid hr
  have HLN := Lib.hid hln
  clear hr hln
  go_enter Tryz.func77, Tryz.ntmps77
  go_wp2
  go_loop [3, 4, 9] (fun b a i => ∃ k s m : Nat, k ≤ n ∧ i = .int .i64 (k : Int) ∧ a = .int .i64 (s : Int) ∧ b = .int .i64 (m : Int) ∧ s ≤ 32768 * k ∧ m ≤ k ∧
    Hid (s = rsum (L.take k)) ∧ Hid (m = many (L.take k)) ∧ Hid ((L.take k).all inR = true)) (fun _ _ i => n - (intOf i).toNat)
  case atStart => exact ⟨0, 0, 0, by omega, rfl, rfl, rfl, by omega, by omega, rfl, rfl, rfl⟩
  case round =>
    obtain ⟨k, s, m, hk, rfl, rfl, rfl, hs, hm, Hs, Hm, Ha⟩ := hrel
    by_cases hlt : k < n
    · obtain ⟨ad, u, rfl, hu, hcell⟩ := HR.out.at_ hlt
      obtain ⟨x, hx⟩ : ∃ x, L[k]? = some x := ⟨_, List.getElem?_eq_getElem (by have := HLN.out; omega)⟩
      obtain rfl : intc x = u := by simpa [hx] using hu
      unfold intc at hcell
      have HX := Lib.hid hx
      clear hu hx
      rcases (show x < 0 ∨ 15 < x ∨ x = 0 ∨ (1 ≤ x ∧ x ≤ 15) by omega) with h | h | h | ⟨h, h'⟩
      · have hno : rightB L = false := not_right HX.out (by simp [inR]; omega)
        have HNO := Lib.hid hno
        clear hno
        go_wp2
        go_ret
        rw [HNO.out]
        exact ⟨rfl, rfl⟩
      · have hno : rightB L = false := not_right HX.out (by simp [inR]; omega)
        have HNO := Lib.hid hno
        have t : ¬ x < 0 := by omega
        clear hno
        go_wp2
        go_ret
        rw [HNO.out]
        exact ⟨rfl, rfl⟩
      · subst h
        have h1 := take_snoc HX.out
        have e1 : s = rsum (L.take (k + 1)) := by rw [h1, rsum_snoc, ← Hs.out, kr_zero]; rfl
        have e2 : m = many (L.take (k + 1)) := by rw [h1, many_snoc, ← Hm.out]; rfl
        have e4 : (L.take (k + 1)).all inR = true := by rw [h1, all_snoc, Ha.out]; rfl
        have E := Lib.hid (And.intro e1 (And.intro e2 e4))
        clear h1 e1 e2 e4
        go_wp2
        go_round
        case rel => exact ⟨k + 1, s, m, by omega, by go_num, rfl, rfl, by omega, by omega, E.out.1, E.out.2.1, E.out.2.2⟩
        case measure => simp [intOf] <;> omega
      · have h1 := take_snoc HX.out
        obtain ⟨q, hq⟩ : ∃ q, q = kr x := ⟨_, rfl⟩
        have hq1 : q ≤ 32768 := by rw [hq]; exact kr_le x
        have e1 : s + q = rsum (L.take (k + 1)) := by rw [h1, rsum_snoc, ← Hs.out, hq]
        have e2 : m + 1 = many (L.take (k + 1)) := by rw [h1, many_snoc, ← Hm.out, if_pos (by omega)]
        have e4 : (L.take (k + 1)).all inR = true := by rw [h1, all_snoc, Ha.out]; simp [inR]; omega
        have E := Lib.hid (And.intro e1 (And.intro e2 e4))
        have hsh : (32768 : Int) / 2 ^ x.toNat = (q : Int) := by
          rw [hq, kr, if_pos (by omega)]
          simp
        clear h1 e1 e2 e4 hq
        go_wp2
        go_round
        case rel => exact ⟨k + 1, s + q, m + 1, by omega, by go_num, by go_num, by go_num, by omega, by omega, E.out.1, E.out.2.1, E.out.2.2⟩
        case measure => simp [intOf] <;> omega
    · obtain rfl : k = n := by omega
      have hres : rightB L = (s == 32768 || (m == 1 && s == 16384)) := by
        have e : L.take k = L := List.take_of_length_le (by have := HLN.out; omega)
        have h := Ha.out
        rw [e] at h
        rw [right_sum h, Hs.out, Hm.out, e]
      have HRES := Lib.hid hres
      clear hres
      have fin : ∀ (v : Bool), (s == 32768 || (m == 1 && s == 16384)) = v → rightB L = v := fun v h => HRES.out.trans h
      have FIN := Lib.hid fin
      clear fin
      by_cases c1 : s = 32768
      · have t1 : ((s : Int) == 32768) = true := by simp; omega
        have hv := FIN.out true (by simp [c1])
        have HV := Lib.hid hv
        clear c1 hv
        go_wp2
        go_ret
        rw [HV.out]
        exact ⟨rfl, rfl⟩
      · have t1 : ((s : Int) == 32768) = false := by simp; omega
        by_cases c2 : m = 1
        · have t2 : ((m : Int) == 1) = true := by simp; omega
          by_cases c3 : s = 16384
          · have t3 : ((s : Int) == 16384) = true := by simp; omega
            have hv := FIN.out true (by simp [c2, c3])
            have HV := Lib.hid hv
            clear c1 c2 c3 hv
            go_wp2
            go_ret
            rw [HV.out]
            exact ⟨rfl, rfl⟩
          · have t3 : ((s : Int) == 16384) = false := by simp; omega
            have hv := FIN.out false (by simp [c1, c3])
            have HV := Lib.hid hv
            clear c1 c2 c3 hv
            go_wp2
            go_ret
            rw [HV.out]
            exact ⟨rfl, rfl⟩
        · have t2 : ((m : Int) == 1) = false := by simp; omega
          have hv := FIN.out false (by simp [c1, c2])
          have HV := Lib.hid hv
          clear c1 c2 hv
          go_wp2
          go_ret
          rw [HV.out]
          exact ⟨rfl, rfl⟩
end Go.Proofs.YtahfmcdhcbfkaaaGreatDoor
namespace Go.Proofs.YtahfmcdhcbfkaaaGreatDoor.HuffM

/-- two places change theirs -/
def swp (d : List Nat) (i j : Nat) : List Nat := (d.set i (d.getD j 0)).set j (d.getD i 0)
theorem swp_len (d : List Nat) (i j : Nat) : (swp d i j).length = d.length := by simp [swp]
theorem getD_at (P : List Nat) (x : Nat) (S : List Nat) (i : Nat) (hi : i = P.length) : (P ++ x :: S).getD i 0 = x := by
  subst hi
  simp [List.getD_eq_getElem?_getD]
theorem getE_at (P : List Nat) (x : Nat) (S : List Nat) (i : Nat) (hi : i = P.length) : (P ++ x :: S)[i]? = some x := by
  subst hi
  simp
theorem set_at (P : List Nat) (x y : Nat) (S : List Nat) (i : Nat) (hi : i = P.length) : (P ++ x :: S).set i y = P ++ y :: S := by
  subst hi
  rw [List.set_append_right _ _ (Nat.le_refl _), Nat.sub_self, List.set_cons_zero]
/-- the first place ahead of the second -/
theorem swp_at (P M S : List Nat) (x y i j : Nat) (hi : i = P.length) (hj : j = P.length + 1 + M.length) : swp (P ++ x :: (M ++ y :: S)) i j = P ++ y :: (M ++ x :: S) := by
  have e2 : (P ++ x :: (M ++ y :: S)).getD j 0 = y := by
    have := getD_at (P ++ x :: M) y S j (by simp; omega)
    simpa using this
  unfold swp
  rw [e2, getD_at P x _ i hi, set_at P x y _ i hi]
  have := set_at (P ++ y :: M) y x S j (by simp; omega)
  simpa using this
theorem swp_comm (d : List Nat) (i j : Nat) : swp d i j = swp d j i := by
  by_cases h : i = j
  · subst h; rfl
  · unfold swp
    rw [List.set_comm _ _ h]

/-- by keys, then by numbers -/
def lx (key : Nat → Nat) (x y : Nat) : Prop := key x < key y ∨ (key x = key y ∧ x < y)
def Srt (key : Nat → Nat) (l : List Nat) : Prop := l.Pairwise (lx key)
/-- of one key, who stands ahead is less -/
def Stb (key : Nat → Nat) (A B : List Nat) : Prop := ∀ x ∈ A, ∀ y ∈ B, key x = key y → x < y
section
variable {key : Nat → Nat}
theorem lx_trans {x y z : Nat} (h : lx key x y) (k : lx key y z) : lx key x z := by
  unfold lx at *
  omega
theorem lx_key {x y : Nat} (h : lx key x y) : key x ≤ key y := by
  unfold lx at h
  omega
theorem lx_asymm {x y : Nat} (h : lx key x y) (k : lx key y x) : False := by
  unfold lx at *
  omega
theorem lx_of_stb {x y : Nat} (h : key x = key y → x < y) (k : ¬ key y < key x) : lx key x y := by
  unfold lx
  omega
theorem srt_app {A B : List Nat} : Srt key (A ++ B) ↔ Srt key A ∧ Srt key B ∧ ∀ x ∈ A, ∀ y ∈ B, lx key x y := List.pairwise_append
theorem srt_perm_eq {A B : List Nat} (hA : Srt key A) (hB : Srt key B) (hp : A.Perm B) : A = B := by
  induction A generalizing B with
  | nil => exact hp.nil_eq
  | cons x A ih =>
    cases B with
    | nil => exact absurd hp.length_eq (by simp)
    | cons y B =>
      have hA' := List.pairwise_cons.1 hA
      have hB' := List.pairwise_cons.1 hB
      have hx : x ∈ y :: B := hp.mem_iff.1 (List.mem_cons_self ..)
      have hy : y ∈ x :: A := hp.mem_iff.2 (List.mem_cons_self ..)
      have e : x = y := by
        rcases List.mem_cons.1 hx with h | h
        · exact h
        · rcases List.mem_cons.1 hy with h' | h'
          · exact h'.symm
          · exact (lx_asymm (hB'.1 x h) (hA'.1 y h')).elim
      subst e
      rw [ih hA'.2 hB'.2 hp.cons_inv]
/-- all of a sorted list lie ahead of y, if its last one does -/
theorem ahead_of {A : List Nat} {z y : Nat} (h : Srt key (A ++ [z])) (k : lx key z y) : ∀ x ∈ A ++ [z], lx key x y := by
  intro x hx
  rcases List.mem_append.1 hx with hx | hx
  · exact lx_trans ((srt_app.1 h).2.2 x hx z (by simp)) k
  · simp at hx; subst hx; exact k
/-- all of a sorted list lie behind y, if its first one does -/
theorem behind_of {A : List Nat} {z y : Nat} (h : Srt key (z :: A)) (k : lx key y z) : ∀ x ∈ z :: A, lx key y x := by
  intro x hx
  rcases List.mem_cons.1 hx with hx | hx
  · subst hx; exact k
  · exact lx_trans k ((List.pairwise_cons.1 h).1 x hx)
theorem ins_end {C1 C2 : List Nat} {y : Nat} (h : Srt key (C1 ++ C2)) (h1 : ∀ x ∈ C1, lx key x y) (h2 : ∀ z ∈ C2, lx key y z) : Srt key (C1 ++ y :: C2) := by
  obtain ⟨a, b, c⟩ := srt_app.1 h
  refine srt_app.2 ⟨a, List.pairwise_cons.2 ⟨h2, b⟩, fun x hx z hz => ?_⟩
  rcases List.mem_cons.1 hz with rfl | hz
  · exact h1 x hx
  · exact c x hx z hz
theorem getD_seg (P L : List Nat) (i k : Nat) (h : i = P.length + k) : (P ++ L).getD i 0 = L.getD k 0 := by
  subst h
  rw [List.getD_eq_getElem?_getD, List.getElem?_append_right (by omega), Nat.add_sub_cancel_left, ← List.getD_eq_getElem?_getD]
theorem getD_fst (L M : List Nat) (k : Nat) (h : k < L.length) : (L ++ M).getD k 0 = L.getD k 0 := by
  rw [List.getD_eq_getElem?_getD, List.getElem?_append_left h, ← List.getD_eq_getElem?_getD]
theorem take_last {B : List Nat} {k : Nat} (h0 : 0 < k) (h : k ≤ B.length) : B.take k = B.take (k - 1) ++ [B.getD (k - 1) 0] := by
  have e : B[k - 1]? = some (B.getD (k - 1) 0) := by rw [List.getD_eq_getElem?_getD, List.getElem?_eq_getElem (by omega)]; rfl
  conv => lhs; rw [show k = (k - 1) + 1 by omega, List.take_add_one, e]
  rfl
theorem drop_first {B : List Nat} {k : Nat} (h : k < B.length) : B.drop k = B.getD k 0 :: B.drop (k + 1) := by
  rw [List.drop_eq_getElem_cons h, List.getD_eq_getElem?_getD, List.getElem?_eq_getElem h]
  rfl
theorem getD_mem {B : List Nat} {k : Nat} (h : k < B.length) : B.getD k 0 ∈ B := by
  rw [List.getD_eq_getElem?_getD, List.getElem?_eq_getElem h]
  exact List.getElem_mem h
theorem srt_take {B : List Nat} (h : Srt key B) (k : Nat) : Srt key (B.take k) := List.Pairwise.sublist (List.take_sublist k B) h
theorem srt_drop {B : List Nat} (h : Srt key B) (k : Nat) : Srt key (B.drop k) := List.Pairwise.sublist (List.drop_sublist k B) h
theorem stb_take {A B : List Nat} (h : Stb key A B) (k l : Nat) : Stb key (A.take k) (B.take l) := fun x hx y hy => h x (List.mem_of_mem_take hx) y (List.mem_of_mem_take hy)
theorem stb_drop {A B : List Nat} (h : Stb key A B) (k l : Nat) : Stb key (A.drop k) (B.drop l) := fun x hx y hy => h x (List.mem_of_mem_drop hx) y (List.mem_of_mem_drop hy)
/-- all of the first k lie ahead of y, if the last of them does -/
theorem take_ahead {B : List Nat} {k y : Nat} (hB : Srt key B) (hk : k ≤ B.length) (h : k = 0 ∨ lx key (B.getD (k - 1) 0) y) : ∀ x ∈ B.take k, lx key x y := by
  rcases Nat.eq_zero_or_pos k with rfl | h0
  · intro x hx; simp at hx
  · rcases h with h | h
    · omega
    · have e := take_last h0 hk
      have s := srt_take hB k
      rw [e] at s ⊢
      exact ahead_of s h
/-- all behind the first k lie behind y, if the first of them does -/
theorem drop_behind {B : List Nat} {k y : Nat} (hB : Srt key B) (h : k = B.length ∨ lx key y (B.getD k 0)) : ∀ x ∈ B.drop k, lx key y x := by
  by_cases hk : k < B.length
  · rcases h with h | h
    · omega
    · have e := drop_first hk
      have s := srt_drop hB k
      rw [e] at s ⊢
      exact behind_of s h
  · intro x hx
    rw [List.drop_eq_nil_of_le (by omega)] at hx
    simp at hx
/-- one symbol goes into a sorted list behind it -/
theorem merge1 {B : List Nat} {x k : Nat} (hB : Srt key B) (hs : Stb key [x] B) (hk : k ≤ B.length) (h1 : k = 0 ∨ key (B.getD (k - 1) 0) < key x) (h2 : k = B.length ∨ ¬ key (B.getD k 0) < key x) : Srt key (B.take k ++ x :: B.drop k) := by
  refine ins_end (by rw [List.take_append_drop]; exact hB) (take_ahead hB hk (h1.imp id .inl)) (drop_behind hB ?_)
  by_cases hkl : k = B.length
  · exact .inl hkl
  · exact .inr (lx_of_stb (hs x (by simp) _ (getD_mem (by omega))) (h2.resolve_left hkl))
/-- one symbol goes into a sorted list ahead of it -/
theorem merge2 {A : List Nat} {y k : Nat} (hA : Srt key A) (hs : Stb key A [y]) (hk : k ≤ A.length) (h1 : k = 0 ∨ ¬ key y < key (A.getD (k - 1) 0)) (h2 : k = A.length ∨ key y < key (A.getD k 0)) : Srt key (A.take k ++ y :: A.drop k) := by
  refine ins_end (by rw [List.take_append_drop]; exact hA) (take_ahead hA hk ?_) (drop_behind hA (h2.imp id .inl))
  by_cases hk0 : k = 0
  · exact .inl hk0
  · exact .inr (lx_of_stb (hs _ (getD_mem (by omega)) y (by simp)) (h1.resolve_left hk0))
/-- two sorted lists, cut so that the first parts lie ahead of the second ones -/
theorem merge3 {A B : List Nat} {k l : Nat} (hA : Srt key A) (hB : Srt key B) (hs : Stb key A B) (hk : k ≤ A.length) (hl : l ≤ B.length)
    (h1 : k = 0 ∨ l = B.length ∨ ¬ key (B.getD l 0) < key (A.getD (k - 1) 0)) (h2 : k = A.length ∨ l = 0 ∨ key (B.getD (l - 1) 0) < key (A.getD k 0)) :
    ∀ x ∈ A.take k ++ B.take l, ∀ y ∈ A.drop k ++ B.drop l, lx key x y := by
  have hAA : Srt key (A.take k ++ A.drop k) := by rw [List.take_append_drop]; exact hA
  have hBB : Srt key (B.take l ++ B.drop l) := by rw [List.take_append_drop]; exact hB
  have ab : ∀ x ∈ A.take k, ∀ y ∈ B.drop l, lx key x y := by
    intro x hx y hy
    have hk0 : k ≠ 0 := by rintro rfl; simp at hx
    have hll : l < B.length := by
      rcases Nat.lt_or_ge l B.length with h | h
      · exact h
      · rw [List.drop_eq_nil_of_le h] at hy; simp at hy
    have h := (h1.resolve_left hk0).resolve_left (by omega)
    have h3 : lx key (A.getD (k - 1) 0) (B.getD l 0) := lx_of_stb (hs _ (getD_mem (by omega)) _ (getD_mem hll)) h
    have h4 := take_ahead hA hk (.inr h3) x hx
    exact drop_behind hB (k := l) (.inr h4) y hy
  have ba : ∀ x ∈ B.take l, ∀ y ∈ A.drop k, lx key x y := by
    intro x hx y hy
    have hl0 : l ≠ 0 := by rintro rfl; simp at hx
    have hkk : k < A.length := by
      rcases Nat.lt_or_ge k A.length with h | h
      · exact h
      · rw [List.drop_eq_nil_of_le h] at hy; simp at hy
    have h := (h2.resolve_left (by omega)).resolve_left hl0
    have h4 := take_ahead hB hl (.inr (.inl h)) x hx
    exact drop_behind hA (k := k) (.inr h4) y hy
  intro x hx y hy
  rcases List.mem_append.1 hx with hx | hx <;> rcases List.mem_append.1 hy with hy | hy
  · exact (srt_app.1 hAA).2.2 x hx y hy
  · exact ab x hx y hy
  · exact ba x hx y hy
  · exact (srt_app.1 hBB).2.2 x hx y hy
/-- of one key, who stands ahead is less, in all of a list -/
def Sta (key : Nat → Nat) (l : List Nat) : Prop := l.Pairwise fun x y => key x = key y → x < y
theorem sta_stb {A B : List Nat} (h : Sta key (A ++ B)) : Sta key A ∧ Sta key B ∧ Stb key A B := List.pairwise_append.1 h
theorem srt_sta {A : List Nat} (h : Srt key A) : Sta key A := List.Pairwise.imp (fun {x y} h e => by unfold lx at h; omega) h
/-- a piece is put into order -/
theorem sta_in {P X C S : List Nat} (h : Sta key (P ++ (X ++ S))) (hp : C.Perm X) (hC : Srt key C) : Sta key (P ++ (C ++ S)) := by
  obtain ⟨a, b, c⟩ := sta_stb h
  obtain ⟨d, e, f⟩ := sta_stb b
  refine List.pairwise_append.2 ⟨a, List.pairwise_append.2 ⟨srt_sta hC, e, fun x hx y hy => f x (hp.mem_iff.1 hx) y hy⟩, fun x hx y hy => ?_⟩
  rcases List.mem_append.1 hy with hy | hy
  · exact c x hx y (List.mem_append_left _ (hp.mem_iff.1 hy))
  · exact c x hx y (List.mem_append_right _ hy)
theorem perm_in {P X C S D : List Nat} (h : (P ++ (X ++ S)).Perm D) (hp : C.Perm X) : (P ++ (C ++ S)).Perm D := ((List.Perm.append_left P (hp.append_right S))).trans h
/-- blocks of so many, each in order -/
def Bks (key : Nat → Nat) (bs : Nat) (L : List (List Nat)) : Prop := ∀ C ∈ L, C.length = bs ∧ Srt key C
theorem Bks.snoc {bs : Nat} {L : List (List Nat)} {C : List Nat} (h : Bks key bs L) (h1 : C.length = bs) (h2 : Srt key C) : Bks key bs (L ++ [C]) := by
  intro X hX
  rcases List.mem_append.1 hX with hX | hX
  · exact h X hX
  · simp at hX; subst hX; exact ⟨h1, h2⟩
theorem flat_snoc (L : List (List Nat)) (C : List Nat) : (L ++ [C]).flatten = L.flatten ++ C := by simp
end
end Go.Proofs.YtahfmcdhcbfkaaaGreatDoor.HuffM
