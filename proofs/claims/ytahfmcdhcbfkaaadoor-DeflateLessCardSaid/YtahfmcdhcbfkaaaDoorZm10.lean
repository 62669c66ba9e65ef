/-
  A whole struct is stored into a variable of its own.
  Layer 8's program: its tables; spanOf.
  What layer 9's walks stand on: the tables of syms and codes.
  Layer 1 for higher layers: bits as cells, the reference's Low; blocks of slices.
-/
import Derived.Test.YtahfmcdhcbfkaaaDoorZm04
import Derived.Test.YtahfmcdhcbfkaaaDoorZm06
import Derived.Test.YtahfmcdhcbfkaaaDoorZm09
import Derived.Test.YtahfmcdhcbfkaaaDoorZm01
import Derived.StillTailTactics
import Derived.Deep.DeepCutAuto
import Derived.Deep.QuietTactic
import Derived.BigQuiet
import Derived.BigRegion
import Derived.Deep.RegionWith
namespace Go.Proofs.YtahfmcdhcbfkaaaDoor
open Go.RowKit Mem Go.Lib
set_option linter.unusedVariables false

theorem store_st {P : Program} {ty : TypeId} {n : Nat} (hs : (P.info? ty).map (·.size) = some n) {ops : Array Oper} {rest : List Oper} {op : Oper} {a : Act} {w : World} {Q : Exit → Act → World → Prop} (hgd : op.guard = none) (x y : Operand) (ho : op.op = .store ty x y)
    (g : Nat) (hx : a.eval x = .pointer (some ⟨g, 0, none⟩)) (L : List Value) (hy : a.eval y = .agg L.toArray) (old : Array Value) (t : TypeId) (hb : w.heap[g]? = some (.cells old t (0, 0))) (hn : L.length = n) (ho2 : old.size = n) (h1 : L.toArray.all (·.oneCell') = true)
    (h : ∀ w', Row w' g t L → Fr (fun b => b = g) w w' → wpList P ops Q rest (a.put op.dst undef) w') : wpList P ops Q (op :: rest) a w := by
  refine wpList_plain hgd fun K hK => ?_
  unfold Oper.wp execOp
  simp only [ho, hx, hy, Instr.storeAt, Instr.sureAddr, Sem.run_bind, Sem.run_pure, Result.andThen_ok, run_storeVar_row w g t ty old L.toArray hb (by rw [hs]; simp [hn]) (by rw [ho2]; simp [hn]) h1]
  exact hK _ _ (h _ (setRow_heap w g old L.toArray t (0, 0) hb) ⟨rfl, rfl, rfl, by simp [World.setRow], fun b _ hs => setRow_other w g b _ hs⟩)
end Go.Proofs.YtahfmcdhcbfkaaaDoor
namespace Go.Proofs.YtahfmcdhcbfkaaaDoor
open Go.RowKit CoM Mem Go.Lib
attribute [local go_sem ↓] Go.wp_at_zero Go.wp_at_succ
set_option linter.unusedVariables false

/-- how often an item tells a length: least, most, bits -/
def spn : List (Nat × Nat × Nat) := [(3, 6, 2), (3, 10, 3), (11, 138, 7)]
/-- the tables lie below this block -/
def top8 : Nat := max 2 3 + 1
/-- how often each tells lies in its variable -/
def GlS (w : World) : Prop := ∀ i a b c : Nat, spn[i]? = some (a, b, c) → w.cell? ⟨3, i * 3, none⟩ = some (.int .i64 (a : Int)) ∧ w.cell? ⟨3, i * 3 + 1, none⟩ = some (.int .i64 (b : Int)) ∧ w.cell? ⟨3, i * 3 + 2, none⟩ = some (.int .i64 (c : Int))
theorem GlS.fr {S : Nat → Prop} {w w' : World} (h : GlS w) (hf : Fr S w w') (hS : ¬ S 3) : GlS w' :=
  fun i a b c hx => ⟨hf.cell (h i a b c hx).1 hS, hf.cell (h i a b c hx).2.1 hS, hf.cell (h i a b c hx).2.2 hS⟩
theorem GlS.fr0 {w w' : World} (h : GlS w) (hf : Fr (fun _ => False) w w') : GlS w' := h.fr hf (fun h => h)
/-- the order of the items' lengths lies in its variable, too -/
def Gl8 (w : World) : Prop := (∀ i x : Nat, ord[i]? = some x → w.cell? ⟨2, i, none⟩ = some (.int .i64 (x : Int))) ∧ GlS w
theorem Gl8.fr {S : Nat → Prop} {w w' : World} (h : Gl8 w) (hf : Fr S w w') (hS : ∀ k, S k → top8 ≤ k) : Gl8 w' :=
  ⟨fun i x hx => hf.cell (h.1 i x hx) (fun h => by have := hS _ h; unfold top8 at this; (simp at this) <;> omega), h.2.fr hf (fun h => by have := hS _ h; unfold top8 at this; omega)⟩
theorem Gl8.fr0 {w w' : World} (h : Gl8 w) (hf : Fr (fun _ => False) w w') : Gl8 w' := h.fr hf (fun _ h => h.elim)
theorem Gl8.size {w : World} (h : Gl8 w) : top8 ≤ w.heap.size := by
  have h1 : (⟨2, 0, none⟩ : Addr).block < w.heap.size := World.block_lt_of_cell? w ⟨2, 0, none⟩ (h.1 0 16 rfl)
  have h2 : (⟨3, 0 * 3, none⟩ : Addr).block < w.heap.size := World.block_lt_of_cell? w ⟨3, 0 * 3, none⟩ (h.2 0 3 6 2 rfl).1
  simp at h1 h2
  unfold top8
  omega

theorem spanSz : (Tryd.prog.info? 144).map (·.size) = some 3 := by kernel_rfl
theorem spv_one (a b c : Nat) : [Value.int .i64 (a : Int), .int .i64 (b : Int), .int .i64 (c : Int)].toArray.all (·.oneCell') = true := by simp [Value.oneCell']
def spv (a b c : Nat) : Value := .agg #[.int .i64 (a : Int), .int .i64 (b : Int), .int .i64 (c : Int)]
set_option maxRecDepth 100000 in
set_option maxHeartbeats 1600000 in
theorem spanOf_any (s k a b c : Nat) (hk : s = 16 + k) (h : spn[k]? = some (a, b, c)) (w : World) (hG : GlS w) :
    Calls Tryd.prog 96 #[.int .i64 (s : Int)] w fun e w' => e = .returned (spv a b c) ∧ Fr (fun _ => False) w w' := by
  have hk3 : k < 3 := (List.getElem?_eq_some_iff.1 h).1
  have hki : (k : Int) < 3 := by omega
  have hsk : (s : Int) - 16 = (k : Int) := by omega
  have hsw : IntKind.i64.wrap ((s : Int) - 16) = (k : Int) := by rw [IntKind.wrap_i64]; omega
  have HG := Lib.hid hG
  have HX := Lib.hid h
  unfold spv
  clear hG h hk hk3
  go_enter Tryd.func96, Tryd.ntmps96
  go_upto_region 1 with fail
  obtain ⟨w1, hw1⟩ : ∃ w1, w1 = w.alloc (.cells #[Value.int .i64 0, .int .i64 0, .int .i64 0] 144) := ⟨_, rfl⟩
  have hr1 : Row w1 w.heap.size 144 [Value.int .i64 0, .int .i64 0, .int .i64 0] := by rw [hw1]; exact Row.new w _ _
  have hf1 : Fr (fun _ => False) w w1 := by rw [hw1]; exact (Fr.refl _ w).alloc _
  obtain ⟨h0, h1, h2⟩ := (HG.out.fr0 hf1) k a b c HX.out
  obtain ⟨r, hr⟩ : ∃ r, r = w.heap.size := ⟨_, rfl⟩
  rw [← hw1]
  rw [← hr] at hr1 ⊢
  have HF1 := Lib.hid hf1
  have HR1 := Lib.hid hr1
  have HRW : Hid (w.heap.size ≤ r) := Lib.hid (by omega)
  clear hw1 hf1 hr1 hr
  go_wp2_with (refine store_st spanSz rfl (.tmp 2) (.tmp 6) rfl r (by rfl) [.int .i64 (a : Int), .int .i64 (b : Int), .int .i64 (c : Int)] (by rfl) _ _ HR1.out rfl rfl (spv_one a b c) ?_)
  intro w4 hr4 hf4
  have HF4 := Lib.hid (HF1.out.trans hf4 (fun b hb h => by have := HRW.out; omega))
  have d0 : w4.cell? ⟨r, 0, none⟩ = some (.int .i64 (a : Int)) := hr4.cell rfl
  have d1 : w4.cell? ⟨r, 1, none⟩ = some (.int .i64 (b : Int)) := hr4.cell rfl
  have d2 : w4.cell? ⟨r, 2, none⟩ = some (.int .i64 (c : Int)) := hr4.cell rfl
  clear hr4 hf4
  go_wp2_with fail
  exact bodyPost_ret (v := .agg #[.int .i64 (a : Int), .int .i64 (b : Int), .int .i64 (c : Int)]) (by simp [results, Tryd.results96, go_sem, d0, d1, d2]) rfl ⟨rfl, HF4.out⟩
end Go.Proofs.YtahfmcdhcbfkaaaDoor
namespace Go.Proofs.YtahfmcdhcbfkaaaDoor
open Mem
/-- the tables of syms and codes lie in their variables -/
def Gl9 (w : World) : Prop := Gl w ∧ Gl8 w
theorem Gl9.fr0 {w w' : World} (h : Gl9 w) (hf : Fr (fun _ => False) w w') : Gl9 w' := ⟨h.1.fr0 hf, h.2.fr0 hf⟩
end Go.Proofs.YtahfmcdhcbfkaaaDoor
namespace Go.Proofs.YtahfmcdhcbfkaaaDoor
open Go.RowKit BitsM Mem
set_option maxRecDepth 100000

def bitc (b : Bool) : Value := .int .u8 (b.toNat : Int)
theorem bitc_one (l : List Bool) : ∀ u ∈ l.map bitc, u.oneCell' = true := by
  intro u hu
  obtain ⟨b, _, rfl⟩ := List.mem_map.1 hu
  rfl
theorem bitc_low {x k z : Nat} (h : z = x / 2 ^ k) : Value.int .u8 ((z : Int) % 2) = bitc (x.testBit k) := by
  subst h
  unfold bitc
  rw [Nat.testBit_eq_decide_div_mod_eq]
  have e : ((x / 2 ^ k : Nat) : Int) % 2 = ((x / 2 ^ k % 2 : Nat) : Int) := by omega
  rw [e]
  rcases Nat.mod_two_eq_zero_or_one (x / 2 ^ k) with h | h <;> simp [h]
set_option maxHeartbeats 400000 in
theorem low_any (x : Nat) (n : Int) (w : World) (hx1 : x < 18446744073709551616) (hn0 : -9223372036854775808 ≤ n) (hn1 : n ≤ 9223372036854775807) :
    Calls Tryd.prog 67 #[.int .u64 (x : Int), .int .i64 n] w fun e w' => ∃ A c, e = .returned (.slice A (min n.toNat 64) c) ∧ w'.ownsRow w.heap.size 5 1 (.slice A (min n.toNat 64) c) (min n.toNat 64) ((low x (min n.toNat 64)).map bitc) ∧ Fr (fun _ => False) w w' := by
  go_enter Tryd.func67, Tryd.ntmps67
  go_wp2
  go_loopw [0, 5, 6] (fun y v i wr => ∃ (k z : Nat) (A : Option Addr) (c : Nat), k ≤ min n.toNat 64 ∧ i = .int .i64 k ∧ y = .int .u64 (z : Int) ∧ z < 18446744073709551616 ∧ Hid (z = x / 2 ^ k) ∧ v = .slice A k c ∧ wr.ownsRow w.heap.size 5 1 (.slice A k c) k ((low x k).map bitc) ∧ Fr (fun _ => False) w wr)
    (fun _ _ i _ => 64 - (intOf i).toNat)
  case atStart => exact ⟨0, x, none, 0, Nat.zero_le _, rfl, rfl, hx1, by simp [Hid], rfl, World.ownsRow_nil _ _ _ _, Fr.refl _ _⟩
  case round =>
    obtain ⟨k, z, A, c, hk, rfl, rfl, hz, Hz, rfl, hown, hfr⟩ := hrel
    have hsz := hfr.size
    by_cases hlt : (k : Int) < n
    · by_cases h64 : (k : Int) < 64
      · go_wp2_with (at_builtin; refine wpList_app u8T _ rfl _ _ rfl w.heap.size _ _ _ rfl (hown.alloc _) _ _ _ _ rfl (Rd.one _ _ _) (one_one _ _) (by unfold maxLen; omega) (by omega) (by simp; omega) ?_)
        intro A' c' w' _ _ hown' hfr' _
        go_wp2
        go_roundw
        case rel =>
          refine ⟨k + 1, z / 2, A', c', by omega, by go_num, by congr 1, by omega, ?_, rfl, ?_, ?_⟩
          · have := Hz.out; subst this; show _ = _; rw [Nat.pow_succ, Nat.div_div_eq_div_mul]
          · rw [low_succ, List.map_append]
            rw [bitc_low Hz.out] at hown'
            exact hown'
          · exact (hfr.alloc _).trans hfr' (fun b hb h => by have := hown.lt _ h; omega)
        case measure => simp [intOf] <;> omega
      · go_wp2
        go_ret
        obtain rfl : k = 64 := by omega
        rw [show min n.toNat 64 = 64 from by omega]
        exact ⟨_, _, rfl, hown, hfr⟩
    · go_wp2
      go_ret
      have hkk : min n.toNat 64 = k := by omega
      rw [hkk]
      exact ⟨_, _, rfl, hown, hfr⟩
/-- the block in which a slice lies -/
def bl (A : Option Addr) : Option Nat := A.map (·.block)
theorem bl_own (A : Option Addr) (n c : Nat) : (Value.slice A n c).ownBlock = bl A := by cases A <;> rfl
theorem set_of {w : World} {g : Nat} {cs : Array Value} {t : TypeId} (h : w.heap[g]? = some (.cells cs t (0, 0))) (i : Nat) (u : Value) : (w.setCell ⟨g, i, none⟩ u).heap[g]? = some (.cells (cs.setIfInBounds i u) t (0, 0)) := by
  simp [World.setCell, Array.getElem?_modify, h]
end Go.Proofs.YtahfmcdhcbfkaaaDoor
