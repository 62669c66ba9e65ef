/-
  Layer 8's program: its tables; spanOf.
  What layer 9's walks stand on: the tables of syms and codes.
  Layer 6: the map of the program's press, keyed by three bytes; its past in memory.
  Layer 6, the program: three.
  Layer 6, the program: nearest, same, size.
  Contract of layer 6's reference: Right.
  Contract of layer 6's reference: Open.
-/
import Derived.Test.YtgpkiijmembggaaGreatDoorZm13
import Derived.Test.YtgpkiijmembggaaGreatDoorZm01
import Derived.StillTailTactics
import Derived.Deep.DeepCutAuto
import Derived.Deep.QuietTactic
import Derived.BigQuiet
import Derived.Test.YtgpkiijmembggaaGreatDoorZm04
import Derived.Test.YtgpkiijmembggaaGreatDoorZm06
import Derived.Test.YtgpkiijmembggaaGreatDoorZm05
import Derived.Maps.OwnSet
import Derived.WideKeyArgs
import Derived.DeepKeys4
import Derived.Laws.Cover3
import Derived.Test.YtgpkiijmembggaaGreatDoorZm12
import Derived.Deep.RegionHeld3
namespace Go.Proofs.YtgpkiijmembggaaGreatDoor
open Go.RowKit CoM Mem Go.Lib
attribute [local go_sem ↓] Go.wp_at_zero Go.wp_at_succ
set_option linter.unusedVariables false

/-- how often an item tells a length: least, most, bits -/
def spn : List (Nat × Nat × Nat) := [(3, 6, 2), (3, 10, 3), (11, 138, 7)]
/-- the tables lie below this block -/
def top8 : Nat := max 2 3 + 1
/-- how often each tells lies in its variable -/
def GlS (w : World) : Prop := ∀ i a b c : Nat, spn[i]? = some (a, b, c) → w.cell? ⟨3, i * 3, none⟩ = some (.int .i64 (a : Int)) ∧ w.cell? ⟨3, i * 3 + 1, none⟩ = some (.int .i64 (b : Int)) ∧ w.cell? ⟨3, i * 3 + 2, none⟩ = some (.int .i64 (c : Int))
theorem GlS.fr {S : Nat → Prop} {w w' : World} (h : GlS w) (hf : Fr S w w') (hS : ¬ S 3) : GlS w' :=
  fun i a b c hx => ⟨hf.cell (h i a b c hx).1 hS, hf.cell (h i a b c hx).2.1 hS, hf.cell (h i a b c hx).2.2 hS⟩
theorem GlS.fr0 {w w' : World} (h : GlS w) (hf : Fr (fun _ => False) w w') : GlS w' := h.fr hf (fun h => h)
/-- the order of the items' lengths lies in its variable, too -/
def Gl8 (w : World) : Prop := (∀ i x : Nat, ord[i]? = some x → w.cell? ⟨2, i, none⟩ = some (.int .i64 (x : Int))) ∧ GlS w
theorem Gl8.fr {S : Nat → Prop} {w w' : World} (h : Gl8 w) (hf : Fr S w w') (hS : ∀ k, S k → top8 ≤ k) : Gl8 w' :=
  ⟨fun i x hx => hf.cell (h.1 i x hx) (fun h => by have := hS _ h; unfold top8 at this; (simp at this) <;> omega), h.2.fr hf (fun h => by have := hS _ h; unfold top8 at this; omega)⟩
theorem Gl8.fr0 {w w' : World} (h : Gl8 w) (hf : Fr (fun _ => False) w w') : Gl8 w' := h.fr hf (fun _ h => h.elim)
theorem Gl8.size {w : World} (h : Gl8 w) : top8 ≤ w.heap.size := by
  have h1 : (⟨2, 0, none⟩ : Addr).block < w.heap.size := World.block_lt_of_cell? w ⟨2, 0, none⟩ (h.1 0 16 rfl)
  have h2 : (⟨3, 0 * 3, none⟩ : Addr).block < w.heap.size := World.block_lt_of_cell? w ⟨3, 0 * 3, none⟩ (h.2 0 3 6 2 rfl).1
  simp at h1 h2
  unfold top8
  omega

theorem spanSz : (Tryz.prog.info? 155).map (·.size) = some 3 := by kernel_rfl
theorem spv_one (a b c : Nat) : [Value.int .i64 (a : Int), .int .i64 (b : Int), .int .i64 (c : Int)].toArray.all (·.oneCell') = true := by simp [Value.oneCell']
def spv (a b c : Nat) : Value := .agg #[.int .i64 (a : Int), .int .i64 (b : Int), .int .i64 (c : Int)]
set_option maxRecDepth 100000 in
set_option maxHeartbeats 1600000 in
theorem spanOf_any (s k a b c : Nat) (hk : s = 16 + k) (h : spn[k]? = some (a, b, c)) (w : World) (hG : GlS w) :
    Calls Tryz.prog 90 #[.int .i64 (s : Int)] w fun e w' => e = .returned (spv a b c) ∧ Fr (fun _ => False) w w' := by
  have hk3 : k < 3 := (List.getElem?_eq_some_iff.1 h).1
  have hki : (k : Int) < 3 := by omega
  have hsk : (s : Int) - 16 = (k : Int) := by omega
  have hsw : IntKind.i64.wrap ((s : Int) - 16) = (k : Int) := by rw [IntKind.wrap_i64]; omega
  have HG := Lib.hid hG
  have HX := Lib.hid h
  unfold spv
  clear hG h hk hk3
  go_enter Tryz.func90, Tryz.ntmps90
  go_upto_region 1 with fail
  obtain ⟨w1, hw1⟩ : ∃ w1, w1 = w.alloc (.cells #[Value.int .i64 0, .int .i64 0, .int .i64 0] 155) := ⟨_, rfl⟩
  have hr1 : Row w1 w.heap.size 155 [Value.int .i64 0, .int .i64 0, .int .i64 0] := by rw [hw1]; exact Row.new w _ _
  have hf1 : Fr (fun _ => False) w w1 := by rw [hw1]; exact (Fr.refl _ w).alloc _
  obtain ⟨h0, h1, h2⟩ := (HG.out.fr0 hf1) k a b c HX.out
  obtain ⟨r, hr⟩ : ∃ r, r = w.heap.size := ⟨_, rfl⟩
  rw [← hw1]
  rw [← hr] at hr1 ⊢
  have HF1 := Lib.hid hf1
  have HR1 := Lib.hid hr1
  have HRW : Hid (w.heap.size ≤ r) := Lib.hid (by omega)
  clear hw1 hf1 hr1 hr
  go_wp2_with (refine store_st spanSz rfl (.tmp 2) (.tmp 6) rfl r (by rfl) [.int .i64 (a : Int), .int .i64 (b : Int), .int .i64 (c : Int)] (by rfl) _ _ HR1.out rfl rfl (spv_one a b c) ?_)
  intro w4 hr4 hf4
  have HF4 := Lib.hid (HF1.out.trans hf4 (fun b hb h => by have := HRW.out; omega))
  have d0 : w4.cell? ⟨r, 0, none⟩ = some (.int .i64 (a : Int)) := hr4.cell rfl
  have d1 : w4.cell? ⟨r, 1, none⟩ = some (.int .i64 (b : Int)) := hr4.cell rfl
  have d2 : w4.cell? ⟨r, 2, none⟩ = some (.int .i64 (c : Int)) := hr4.cell rfl
  clear hr4 hf4
  go_wp2_with fail
  exact bodyPost_ret (v := .agg #[.int .i64 (a : Int), .int .i64 (b : Int), .int .i64 (c : Int)]) (by simp [results, Tryz.results90, go_sem, d0, d1, d2]) rfl ⟨rfl, HF4.out⟩
end Go.Proofs.YtgpkiijmembggaaGreatDoor
namespace Go.Proofs.YtgpkiijmembggaaGreatDoor
open Mem
/-- the tables of syms and codes lie in their variables -/
def Gl9 (w : World) : Prop := Gl w ∧ Gl8 w
theorem Gl9.fr0 {w w' : World} (h : Gl9 w) (hf : Fr (fun _ => False) w w') : Gl9 w' := ⟨h.1.fr0 hf, h.2.fr0 hf⟩
end Go.Proofs.YtgpkiijmembggaaGreatDoor
namespace Go.Proofs.YtgpkiijmembggaaGreatDoor
open Go.RowKit LzM LzN Mem Go.Lib Go.Maps Go.WideElems

/-- three bytes as an array, as a key's reading -/
def kc (k : Key) : Array Value := #[bytec k.1, bytec k.2.1, bytec k.2.2]
def kv (k : Key) : Value := .agg (kc k)
def klit (k : Key) : Lit := .string [k.1, k.2.1, k.2.2]
theorem klit_inj {k k' : Key} : klit k = klit k' ↔ k = k' := by
  obtain ⟨a, b, c⟩ := k
  obtain ⟨a', b', c'⟩ := k'
  simp [klit]
theorem cells51 : Tryz.prog.cellsOf 98 = 3 := by kernel_rfl
theorem cells5 : Tryz.prog.cellsOf 5 = 1 := by kernel_rfl
theorem key51 : Tryz.prog.keyType 98 = true := by kernel_rfl
theorem byte_lit (b : UInt8) : (Lit.int .u8 (b.toNat : Int)).wf = true := by
  have h := b.toNat_lt
  simp [Lit.wf, IntKind.min, IntKind.max, IntKind.signed, IntKind.bits]
  omega
theorem byte_key (b : UInt8) : Lit.keyBytes (.int .u8 (b.toNat : Int)) = [b] := by
  have h := b.toNat_lt
  have e : ((b.toNat : Int) % 256).toNat = b.toNat := by omega
  simp [Lit.keyBytes, bytesBE, bytesLE, IntKind.bits, e]
theorem types51 : ∃ d, Tryz.prog.types.size = d + 1 := ⟨Tryz.prog.types.size - 1, by kernel_rfl⟩
theorem lits5 (d : Nat) (b : UInt8) : Tryz.prog.keyLits (d + 1) 5 [bytec b] = some [.int .u8 (b.toNat : Int)] := by
  simp [Program.keyLits, Tryz.underlying5, bytec, byte_lit]
theorem kl_is (k : Key) : keyOf Tryz.prog 98 (kv k) = some (klit k) := by
  obtain ⟨a, b, c⟩ := k
  obtain ⟨d, hd⟩ := types51
  have hf : (kv (a, b, c)).formed Tryz.prog 98 = true := by simp [Value.formed, kv, kc, Tryz.underlying98, cells51]
  have hl : Tryz.prog.keyLits (d + 1 + 1) 98 [bytec a, bytec b, bytec c] = some [.int .u8 (a.toNat : Int), .int .u8 (b.toNat : Int), .int .u8 (c.toNat : Int)] := by
    unfold Program.keyLits
    simp [Tryz.underlying98, cells51, cells5, lits5, List.range, List.range.loop]
  have hc : (kv (a, b, c)).cells.toList = [bytec a, bytec b, bytec c] := rfl
  unfold keyOf
  rw [Tryz.underlying98, key51, hf, hd, hc, hl]
  simp [keyBytes, byte_key, klit]
theorem keyed51 : Keyed Tryz.prog 98 := Keyed.of_law (deep_law_laid laid_out (m := 2) (by omega) (of_decide_eq_true (by kernel_rfl)) (by kernel_rfl) (by rw [Tryz.underlying98]))
theorem zero3 (w : World) : (zeroValue 3).run Tryz.prog w = .ok (.int .i64 0) w := by kernel_rfl

/-- block m is a map of at most n entries: these keys, at these places -/
def Mp (w : World) (m n : Nat) (f : Key → Option Nat) : Prop :=
  ∃ D : DataW Unit, w.ownsMap Tryz.prog 98 (plainElem Tryz.prog 3) m n D ∧ ∀ k, Maps.has D (klit k) = (f k).isSome ∧ ∀ q, f k = some q → D.atKey (klit k) (.lit (.int .i64 0)) = .lit (.int .i64 (q : Int))
def lookI : Option Nat → Int
  | some q => (q : Int)
  | none => 0
set_option maxRecDepth 100000 in
theorem Mp.look {w : World} {m n : Nat} {f : Key → Option Nat} (h : Mp w m n f) (k : Key) :
    (Instr.lookup 95 (.map (some m)) (kv k) true).run Tryz.prog w = .ok (.tuple #[.int .i64 (lookI (f k)), .bool (f k).isSome]) w := by
  obtain ⟨D, ho, hD⟩ := h
  obtain ⟨v, ps, hrun, hv⟩ := ho.look_ok keyed51 Tryz.underlying95 (zero3 w) (plainElem_int Tryz.underlying3 (a := 0) (by decide)) (kl_is k)
  obtain ⟨c, rfl, hc, hwc⟩ := plainElem_int_inv Tryz.underlying3 hv
  simp only [Prod.mk.injEq] at hc
  obtain ⟨h1, h2⟩ := hD k
  rw [hrun, h1]
  cases hk : f k with
  | none =>
    rw [hk] at h1
    have := hc.1
    rw [Maps.atKey_of_not_has h1] at this
    injection this with this
    injection this with _ this
    rw [← this]
    rfl
  | some q =>
    have := hc.1
    rw [h2 q hk] at this
    injection this with this
    injection this with _ this
    rw [← this]
    rfl
set_option maxRecDepth 100000 in
theorem Mp.put {w : World} {m n : Nat} {f : Key → Option Nat} (h : Mp w m n f) (hn : n < maxLen) (k : Key) (a : Nat) (ha : a ≤ maxLen) :
    ∃ w', (Instr.mapUpdate 95 (.map (some m)) (kv k) (.int .i64 (a : Int))).run Tryz.prog w = .ok () w' ∧ Mp w' m (n + 1) (fun k' => if k = k' then some a else f k') ∧ Fr (fun b => b = m) w w' := by
  obtain ⟨D, ho, hD⟩ := h
  have hwf : (Lit.int .i64 (a : Int)).wf = true := WalkArith.wf_i64 (by unfold maxLen at ha; omega)
  obtain ⟨w', hrun, ho', hg⟩ := ho.update keyed51 Tryz.underlying95 hn (kl_is k) (plainElem_int Tryz.underlying3 hwf)
  refine ⟨w', hrun, ⟨_, ho', fun k' => ?_⟩, (Fr.of_grown hg).mono (fun b _ h => by injection h with h; exact h.symm)⟩
  by_cases hk : k = k'
  · subst hk
    simp only
    refine ⟨Maps.has_put_same ho.isMap (keyed51.key (kl_is k)) _, fun q hq => ?_⟩
    injection hq with hq
    subst hq
    exact Maps.atKey_put_same ho.isMap (keyed51.key (kl_is k)) _ _
  · have hne : klit k' ≠ klit k := fun e => hk (klit_inj.1 e).symm
    simp only [if_neg hk]
    refine ⟨(Maps.has_put_other hne _).trans (hD k').1, fun q hq => ?_⟩
    rw [Maps.atKey_put_other hne]
    exact (hD k').2 q hq
theorem Mp.made (w : World) : Mp (w.alloc (.map #[] 0)) w.heap.size 0 (fun _ => none) := ⟨_, World.ownsMap_made _ _ _ _, fun k => ⟨rfl, fun q h => by cases h⟩⟩
theorem Mp.lt {w : World} {m n : Nat} {f : Key → Option Nat} (h : Mp w m n f) : m < w.heap.size := by obtain ⟨D, ho, _⟩ := h; exact ho.lt
theorem Mp.blk {w : World} {m n : Nat} {f : Key → Option Nat} (h : Mp w m n f) : ∃ es cl, w.heap[m]? = some (.map es cl) := by obtain ⟨D, ⟨es, cl, hb, _⟩, _⟩ := h; exact ⟨es, cl, hb⟩
theorem Mp.fr {S : Nat → Prop} {w w' : World} {m n : Nat} {f : Key → Option Nat} (h : Mp w m n f) (hf : Fr S w w') (hS : ¬ S m) : Mp w' m n f := by
  obtain ⟨D, ⟨es, cl, hb, hr⟩, hD⟩ := h
  exact ⟨D, ⟨es, cl, hf.blk hb hS, hr⟩, hD⟩
theorem Mp.mono {w : World} {m n n' : Nat} {f : Key → Option Nat} (h : Mp w m n f) (hn : n ≤ n') : Mp w m n' f := by
  obtain ⟨D, ho, hD⟩ := h
  exact ⟨D, ho.mono hn, hD⟩

def ic (z : Int) : Value := .int .i64 z
/-- the past of the bytes B, passed up to a, in block p; its map in m, its ring in q -/
structure Past (w : World) (p : Nat) (A : Option Addr) (c : Nat) (B : List UInt8) (m q : Nat) (a : Nat) (V : List Int) : Prop where
  blk : Row w p 97 [.slice A B.length c, .map (some m), .slice (some ⟨q, 0, none⟩) V.length V.length]
  mp : Mp w m a (lastF B a)
  row : Row w q 3 (V.map ic)
  ring : Ring B a V
section
variable {w w' : World} {p c m q a : Nat} {A : Option Addr} {B : List UInt8} {V : List Int}
theorem Past.fr {S : Nat → Prop} (h : Past w p A c B m q a V) (hf : Fr S w w') (hS : ∀ b, b = p ∨ b = m ∨ b = q → ¬ S b) : Past w' p A c B m q a V :=
  ⟨h.blk.fr hf (hS _ (.inl rfl)), h.mp.fr hf (hS _ (.inr (.inl rfl))), h.row.fr hf (hS _ (.inr (.inr rfl))), h.ring⟩
theorem Past.ne (h : Past w p A c B m q a V) : p ≠ m ∧ p ≠ q ∧ m ≠ q := by
  have h1 : w.heap[p]? = _ := h.blk
  have h2 : w.heap[q]? = _ := h.row
  obtain ⟨es, cl, h3⟩ := h.mp.blk
  refine ⟨fun e => ?_, fun e => ?_, fun e => ?_⟩
  · rw [e, h3] at h1; cases h1
  · rw [e, h2] at h1; injection h1 with h1; injection h1 with _ h1; exact absurd h1 (by decide)
  · rw [e, h2] at h3; cases h3
theorem Past.c0 (h : Past w p A c B m q a V) : w.cell? ⟨p, 0, none⟩ = some (.slice A B.length c) := h.blk.cell rfl
theorem Past.c1 (h : Past w p A c B m q a V) : w.cell? ⟨p, 1, none⟩ = some (.map (some m)) := h.blk.cell rfl
theorem Past.c2 (h : Past w p A c B m q a V) : w.cell? ⟨p, 2, none⟩ = some (.slice (some ⟨q, 0, none⟩) V.length V.length) := h.blk.cell rfl
end
end Go.Proofs.YtgpkiijmembggaaGreatDoor
namespace Go.Proofs.YtgpkiijmembggaaGreatDoor
open Go.RowKit LzM LzN Mem Go.Lib
set_option linter.unusedVariables false

theorem keyT : RowTy Tryz.prog 98 3 := ⟨⟨_, _, Tryz.underlying98⟩, by kernel_rfl⟩
theorem wrap3 {k : Nat} (h : k ≤ 1000000) : IntKind.i64.wrap ((k : Int) + 3) = ((k + 3 : Nat) : Int) := by rw [IntWalk.i64_left]; unfold wrap64; omega
/-- an array out of the middle of a row -/
theorem load_at {w : World} {ad : Addr} {xs : List Value} {ty : TypeId} {n : Nat} (hT : RowTy Tryz.prog ty n) (hn : xs.length = n) (h : ∀ j v, xs[j]? = some v → w.cell? (ad.add j) = some v) : (Instr.loadAt ty (.pointer (some ad))).run Tryz.prog w = .ok (.agg xs.toArray) w := by
  obtain ⟨m, e, hu⟩ := hT.und
  have hl := run_loadCells_list (P := Tryz.prog) w ad xs h
  have hs := hT.size
  cases hq : (Tryz.prog).info? ty with
  | none => simp [hq] at hs
  | some i =>
    have hs1 : i.size = xs.length := by rw [hn]; simpa [hq] using hs
    simp [Instr.loadAt, Instr.sureAddr, loadVar, isAgg, run_underlying hu, sizeOf, typeInfo, hq, hs1, hl]
theorem wpList_load_run {ty : TypeId} {ops : Array Oper} {rest : List Oper} {op : Oper} {a : Act} {w : World} {Q : Exit → Act → World → Prop} (hgd : op.guard = none) (x : Operand) (ho : op.op = .load ty x)
    (u v : Value) (hx : a.eval x = u) (hr : (Instr.loadAt ty u).run Tryz.prog w = .ok v w) (h : wpList Tryz.prog ops Q rest (a.put op.dst v) w) : wpList Tryz.prog ops Q (op :: rest) a w := by
  refine wpList_plain hgd fun K hK => ?_
  unfold Oper.wp execOp
  simp only [ho, hx, hr, Sem.run_bind, Sem.run_pure, Result.andThen_ok]
  exact hK _ _ h

set_option maxRecDepth 100000 in
set_option maxHeartbeats 1600000 in
theorem three_any (p : Nat) (A : Option Addr) (n c : Nat) (B : List UInt8) (a : Nat) (w : World) (h0 : w.cell? ⟨p, 0, none⟩ = some (.slice A n c)) (hB : Rd w A n (B.map bytec)) (ha : a + 3 ≤ n) (hn : n ≤ 1000000) (hc : n ≤ c) (hcm : c ≤ maxLen) :
    Calls Tryz.prog 45 #[.pointer (some ⟨p, 0, none⟩), .int .i64 (a : Int)] w fun e w' => e = .returned (kv (key B a)) ∧ Fr (fun _ => False) w w' := by
  have HR := Lib.hid hB
  have H0 := Lib.hid h0
  have e3 := wrap3 (k := a) (by omega)
  obtain ⟨b, hb⟩ : ∃ b, b = a + 3 := ⟨_, rfl⟩
  rw [← hb] at e3
  have hbn : b ≤ n := by omega
  unfold maxLen at hcm
  obtain ⟨K, hK⟩ : ∃ K, K = kc (key B a) := ⟨_, rfl⟩
  unfold kv
  rw [← hK]
  have HK := Lib.hid hK
  have HSZ : Hid (K.size = 3) := Lib.hid (by rw [hK]; rfl)
  have HONE : Hid (K.all (·.oneCell') = true) := Lib.hid (by rw [hK]; simp [kc, bytec, Value.oneCell'])
  have HBE := Lib.hid hb
  clear hB h0 hK
  go_enter Tryz.func45, Tryz.ntmps45
  go_upto_region 1 with fail
  obtain ⟨w0, hw0⟩ : ∃ w0, w.alloc (.cells #[.int .u8 0, .int .u8 0, .int .u8 0] 98) = w0 := ⟨_, rfl⟩
  change Code.wp _ _ _ _ (w.alloc (.cells #[.int .u8 0, .int .u8 0, .int .u8 0] 98))
  rw [hw0]
  have hres0 : w0.heap[w.heap.size]? = some (.cells #[.int .u8 0, .int .u8 0, .int .u8 0] 98 (0, 0)) := by rw [← hw0]; exact heap_alloc_new w _
  have hf0 : Fr (fun _ => False) w w0 := by rw [← hw0]; exact (Fr.refl _ _).alloc _
  obtain ⟨g, hg⟩ : ∃ g, g = w.heap.size := ⟨_, rfl⟩
  rw [← hg] at hres0 ⊢
  have HG := Lib.hid hg
  have HRES := Lib.hid hres0
  have HF0 := Lib.hid hf0
  have c0 := hf0.cell H0.out (fun h => h)
  obtain ⟨ad, rfl, hr⟩ := (HR.out.fr hf0 (fun _ _ h => h)).2 (by omega)
  have hln : B.length = n := by simpa using HR.out.1
  have hl : (Instr.loadAt 98 (.pointer (some (ad.add a)))).run Tryz.prog w0 = .ok (.agg K) w0 := by
    rw [HK.out]
    refine load_at keyT (xs := [bytec B[a]!, bytec B[a + 1]!, bytec B[a + 2]!]) rfl (fun j v hj => ?_)
    rw [add_add]
    refine hr _ v ?_
    match j, hj with
    | 0, hj => rw [← hj, Nat.add_zero, List.getElem?_map, List.getElem?_eq_getElem (by omega), getElem!_pos B a (by omega)]; rfl
    | 1, hj => rw [← hj, List.getElem?_map, List.getElem?_eq_getElem (by omega), getElem!_pos B (a + 1) (by omega)]; rfl
    | 2, hj => rw [← hj, List.getElem?_map, List.getElem?_eq_getElem (by omega), getElem!_pos B (a + 2) (by omega)]; rfl
  have HL := Lib.hid hl
  have hat : ∀ w, (Instr.arrayAt 98 (.slice (some (ad.add a)) 3 (c - a))).run Tryz.prog w = .ok (.pointer (some (ad.add a))) w := fun w => run_arrayAt w 98 _ 3 _ 3 (c - a) Tryz.underlying98 (by omega)
  clear hw0 hg hres0 hf0 hr hln hl
  go_wp2_with (first | (refine wpList_load_run rfl (.tmp 13) rfl (.pointer (some (ad.add a))) (.agg K) rfl HL.out ?_) | (refine wpList_store_blk keyT rfl (.tmp 4) (.tmp 14) rfl g rfl K rfl _ _ HRES.out HSZ.out rfl HONE.out ?_))
  intro w3 hg3 hf3
  have HG3 := Lib.hid hg3
  have HF3 : Hid (Fr (fun _ => False) w w3) := Lib.hid (HF0.out.trans hf3 (fun b hb e => by have := HG.out; omega))
  clear hg3 hf3
  go_wp2_with fail
  exact bodyPost_ret (v := .agg K) (results_blk keyT rfl g rfl K _ HG3.out HSZ.out) rfl ⟨rfl, HF3.out⟩
end Go.Proofs.YtgpkiijmembggaaGreatDoor
namespace Go.Proofs.YtgpkiijmembggaaGreatDoor
open Go.RowKit LzM LzN Mem Go.Lib
set_option linter.unusedVariables false

theorem look_num (o : Option Nat) : (if o.isSome = true then lookI o else (-1 : Int)) = num o := by cases o <;> rfl

set_option maxRecDepth 100000 in
set_option maxHeartbeats 1600000 in
theorem nearest_any (p : Nat) (A : Option Addr) (n c m N : Nat) (B : List UInt8) (f : Key → Option Nat) (a : Nat) (w : World) (h0 : w.cell? ⟨p, 0, none⟩ = some (.slice A n c)) (h1 : w.cell? ⟨p, 1, none⟩ = some (.map (some m))) (hM : Mp w m N f)
    (hB : Rd w A n (B.map bytec)) (ha : a + 3 ≤ n) (hn : n ≤ 1000000) (hc : n ≤ c) (hcm : c ≤ maxLen) :
    Calls Tryz.prog 44 #[.pointer (some ⟨p, 0, none⟩), .int .i64 (a : Int)] w fun e w' => e = .returned (.int .i64 (num (f (key B a)))) ∧ Fr (fun _ => False) w w' := by
  have HR := Lib.hid hB
  have H0 := Lib.hid h0
  have HM := Lib.hid hM
  have HA := Lib.hid (And.intro ha (And.intro hn (And.intro hc hcm)))
  obtain ⟨K, hK⟩ : ∃ K, K = kv (key B a) := ⟨_, rfl⟩
  obtain ⟨z, hz⟩ : ∃ z, z = lookI (f (key B a)) := ⟨_, rfl⟩
  obtain ⟨q, hq⟩ : ∃ q, q = (f (key B a)).isSome := ⟨_, rfl⟩
  have hN := look_num (f (key B a))
  rw [← hz, ← hq] at hN
  have hlk : ∀ w', Mp w' m N f → (Instr.lookup 95 (.map (some m)) K true).run Tryz.prog w' = .ok (.tuple #[.int .i64 z, .bool q]) w' := by
    intro w' h
    rw [hK, hz, hq]
    exact h.look _
  have HLK := Lib.hid hlk
  have hth : ∀ w', Rd w' A n (B.map bytec) → w'.cell? ⟨p, 0, none⟩ = some (.slice A n c) → Calls Tryz.prog 45 #[.pointer (some ⟨p, 0, none⟩), .int .i64 (a : Int)] w' fun e w2 => e = .returned K ∧ Fr (fun _ => False) w' w2 := by
    intro w' h1 h2
    rw [hK]
    exact three_any p A n c B a w' h2 h1 ha hn hc hcm
  have HTH := Lib.hid hth
  rw [← hN]
  clear hB h0 hM ha hn hc hcm hK hz hq hlk hth hN
  cases q
  all_goals go_enter Tryz.func44, Tryz.ntmps44
  all_goals go_wp2_with fail
  all_goals go_region_held3 (fun w' => w'.cell? ⟨p, 1, none⟩ = some (.map (some m)))
    (first
      | go_keep
      | exact hk2)
    (first
      | (go_at_call 45
         refine (HTH.out w.drew HR.out.drew H0.out).mono ?_
         rintro e w2 ⟨rfl, hf2⟩
         have hk2 : w2.cell? ⟨p, 1, none⟩ = some (.map (some m)) := hf2.cell (w := w.drew) h1 (fun h => h)
         have hl2 := HLK.out w2 (HM.out.fr ((Fr.refl (fun _ => False) w).drew.trans hf2 (fun _ _ h => h)) (fun h => h))
         have HF2 := Lib.hid ((Fr.refl (fun _ => False) w).drew.trans hf2 (fun _ _ h => h))
         clear hf2))
  all_goals go_wp2_with fail
  all_goals go_ret
  all_goals exact ⟨rfl, HF2.out⟩

/-- as many are the same from the beginning on: k -/
def Same (X Y : List UInt8) (k : Nat) : Prop := k ≤ Y.length ∧ (∀ j, j < k → X[j]! = Y[j]!) ∧ (k = Y.length ∨ X[k]! ≠ Y[k]!)
theorem rd_byte {w : World} {A : Option Addr} {n : Nat} {X : List UInt8} (h : Rd w A n (X.map bytec)) {k : Nat} (hk : k < n) : ∃ ad, A = some ad ∧ w.cell? (ad.add k) = some (.int .u8 ((X[k]!).toNat : Int)) := by
  have hl : X.length = n := by simpa using h.1
  obtain ⟨ad, u, e, h1, h2⟩ := h.at_ hk
  rw [List.getElem?_map, List.getElem?_eq_getElem (by omega)] at h1
  refine ⟨ad, e, ?_⟩
  rw [h2, getElem!_pos X k (by omega), ← h1]
  rfl

set_option maxRecDepth 100000 in
set_option maxHeartbeats 1600000 in
theorem sameT_any (A A2 : Option Addr) (n c c2 : Nat) (X Y : List UInt8) (w : World) (hX : Rd w A n (X.map bytec)) (hY : Rd w A2 n (Y.map bytec)) (hn : n ≤ 1000000) :
    Calls Tryz.prog 46 #[.slice A n c, .slice A2 n c2] w fun e w' => ∃ k, e = .returned (.int .i64 ((k : Nat) : Int)) ∧ Same X Y k ∧ w = w' := by
  have hlx : X.length = n := by simpa using hX.1
  have hly : Y.length = n := by simpa using hY.1
  have HX := Lib.hid hX
  have HY := Lib.hid hY
  have HL := Lib.hid (And.intro hlx hly)
  clear hX hY hlx hly
  go_enter Tryz.func46, Tryz.ntmps46
  go_wp2_with fail
  go_loopw [9] (fun i wr => ∃ k : Nat, k ≤ n ∧ i = .int .i64 (k : Int) ∧ Hid (∀ j, j < k → X[j]! = Y[j]!) ∧ w = wr) (fun i _ => n - (intOf i).toNat)
  case atStart => exact ⟨0, Nat.zero_le _, rfl, fun j hj => by omega, rfl⟩
  case round =>
    obtain ⟨k, hk, rfl, HE, rfl⟩ := hrel
    by_cases hlt : k < n
    · obtain ⟨ad, rfl, h1⟩ := rd_byte HX.out hlt
      obtain ⟨ad2, rfl, h2⟩ := rd_byte HY.out hlt
      obtain ⟨x, hx⟩ : ∃ x, x = X[k]! := ⟨_, rfl⟩
      obtain ⟨y, hy⟩ : ∃ y, y = Y[k]! := ⟨_, rfl⟩
      rw [← hx] at h1
      rw [← hy] at h2
      have HXY := Lib.hid (And.intro hx hy)
      obtain ⟨u, hu⟩ : ∃ u, u = x.toNat := ⟨_, rfl⟩
      obtain ⟨v, hv⟩ : ∃ v, v = y.toNat := ⟨_, rfl⟩
      rw [← hu] at h1
      rw [← hv] at h2
      have HUV := Lib.hid (And.intro hu hv)
      clear hx hy hu hv
      by_cases hxy : u = v
      · have hE : ∀ j, j < k + 1 → X[j]! = Y[j]! := by
          intro j hj
          by_cases e : j = k
          · rw [e, ← HXY.out.1, ← HXY.out.2]
            exact UInt8.toNat_inj.1 (HUV.out.1.symm.trans (hxy.trans HUV.out.2))
          · exact HE.out j (by omega)
        have HE2 := Lib.hid hE
        clear hE
        go_wp2_with fail
        exact ⟨⟨k + 1, by omega, by go_num, HE2.out, trivial⟩, by simp [intOf]; omega⟩
      · go_wp2_with fail
        go_ret
        refine ⟨k, rfl, ⟨by rw [HL.out.2]; omega, HE.out, .inr (fun e => hxy ?_)⟩, rfl⟩
        rw [HUV.out.1, HUV.out.2, HXY.out.1, HXY.out.2, e]
    · obtain rfl : k = n := by omega
      go_wp2_with fail
      go_ret
      exact ⟨k, rfl, ⟨by rw [HL.out.2]; omega, HE.out, .inl HL.out.2.symm⟩, rfl⟩

set_option maxRecDepth 100000 in
theorem size_any (t : Tok) (w : World) :
    Calls Tryz.prog 28 #[tokc t] w fun e w' => e = .returned (.int .i64 (max t.l 1)) ∧ Fr (fun _ => False) w w' := by
  obtain ⟨b, l, d⟩ := t
  unfold tokc bytec
  go_enter Tryz.func28, Tryz.ntmps28
  go_wp2
  all_goals go_ret
  · exact ⟨by rw [show max l 1 = 1 by omega]; rfl, (Fr.refl _ w).alloc _⟩
  · exact ⟨by rw [show max l 1 = l by omega]; rfl, (Fr.refl _ w).alloc _⟩
end Go.Proofs.YtgpkiijmembggaaGreatDoor
namespace Go.Proofs.YtgpkiijmembggaaGreatDoor
open Go.RowKit LzM Mem Go.Lib

end Go.Proofs.YtgpkiijmembggaaGreatDoor
namespace Go.Proofs.YtgpkiijmembggaaGreatDoor
open Go.RowKit LzM Mem Go.Lib

/-- bytes and the error's number -/
def toP : Except Nat (List UInt8) → List UInt8 × Nat
  | .ok B => (B, 0)
  | .error e => ([], e)

end Go.Proofs.YtgpkiijmembggaaGreatDoor
