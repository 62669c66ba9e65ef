/-
  Layer 6: the map of the program's press, keyed by three bytes; its past in memory.
-/
import Derived.Test.YtgieckdfbkonpaaCom
import Derived.Test.YtgieckdfbkonpaaLzN
import Derived.Test.YtgieckdfbkonpaaRow
import Derived.Test.YtgieckdfbkonpaaBlk
import Derived.Maps.OwnSet
import Derived.WideKeyArgs
import Derived.DeepKeys4
namespace Go.Proofs.Ytgieckdfbkonpaa
open Go.RowKit LzM LzN Mem Go.Lib Go.Maps Go.WideElems

/-- three bytes as an array, as a key's reading -/
def kc (k : Key) : Array Value := #[bytec k.1, bytec k.2.1, bytec k.2.2]
def kv (k : Key) : Value := .agg (kc k)
def klit (k : Key) : Lit := .string [k.1, k.2.1, k.2.2]
theorem klit_inj {k k' : Key} : klit k = klit k' ↔ k = k' := by
  obtain ⟨a, b, c⟩ := k
  obtain ⟨a', b', c'⟩ := k'
  simp [klit]
theorem cells51 : Try.prog.cellsOf 51 = 3 := by kernel_rfl
theorem cells5 : Try.prog.cellsOf 5 = 1 := by kernel_rfl
theorem key51 : Try.prog.keyType 51 = true := by kernel_rfl
theorem byte_lit (b : UInt8) : (Lit.int .u8 (b.toNat : Int)).wf = true := by
  have h := b.toNat_lt
  simp [Lit.wf, IntKind.min, IntKind.max, IntKind.signed, IntKind.bits]
  omega
theorem byte_key (b : UInt8) : Lit.keyBytes (.int .u8 (b.toNat : Int)) = [b] := by
  have h := b.toNat_lt
  have e : ((b.toNat : Int) % 256).toNat = b.toNat := by omega
  simp [Lit.keyBytes, bytesBE, bytesLE, IntKind.bits, e]
theorem types51 : ∃ d, Try.prog.types.size = d + 1 := ⟨Try.prog.types.size - 1, by kernel_rfl⟩
theorem lits5 (d : Nat) (b : UInt8) : Try.prog.keyLits (d + 1) 5 [bytec b] = some [.int .u8 (b.toNat : Int)] := by
  simp [Program.keyLits, Try.underlying5, bytec, byte_lit]
theorem kl_is (k : Key) : keyOf Try.prog 51 (kv k) = some (klit k) := by
  obtain ⟨a, b, c⟩ := k
  obtain ⟨d, hd⟩ := types51
  have hf : (kv (a, b, c)).formed Try.prog 51 = true := by simp [Value.formed, kv, kc, Try.underlying51, cells51]
  have hl : Try.prog.keyLits (d + 1 + 1) 51 [bytec a, bytec b, bytec c] = some [.int .u8 (a.toNat : Int), .int .u8 (b.toNat : Int), .int .u8 (c.toNat : Int)] := by
    unfold Program.keyLits
    simp [Try.underlying51, cells51, cells5, lits5, List.range, List.range.loop]
  have hc : (kv (a, b, c)).cells.toList = [bytec a, bytec b, bytec c] := rfl
  unfold keyOf
  rw [Try.underlying51, key51, hf, hd, hc, hl]
  simp [keyBytes, byte_key, klit]
theorem keyed51 : Keyed Try.prog 51 := Keyed.of_law (deep_law_laid laid_out (m := 2) (by omega) (of_decide_eq_true (by kernel_rfl)) (by kernel_rfl) (by rw [Try.underlying51]))
theorem zero3 (w : World) : (zeroValue 3).run Try.prog w = .ok (.int .i64 0) w := by kernel_rfl

/-- block m is a map of at most n entries: these keys, at these places -/
def Mp (w : World) (m n : Nat) (f : Key → Option Nat) : Prop :=
  ∃ D : DataW Unit, w.ownsMap Try.prog 51 (plainElem Try.prog 3) m n D ∧ ∀ k, Maps.has D (klit k) = (f k).isSome ∧ ∀ q, f k = some q → D.atKey (klit k) (.lit (.int .i64 0)) = .lit (.int .i64 (q : Int))
def lookI : Option Nat → Int
  | some q => (q : Int)
  | none => 0
theorem Mp.look {w : World} {m n : Nat} {f : Key → Option Nat} (h : Mp w m n f) (k : Key) :
    (Instr.lookup 46 (.map (some m)) (kv k) true).run Try.prog w = .ok (.tuple #[.int .i64 (lookI (f k)), .bool (f k).isSome]) w := by
  obtain ⟨D, ho, hD⟩ := h
  obtain ⟨v, ps, hrun, hv⟩ := ho.look_ok keyed51 Try.underlying46 (zero3 w) (plainElem_int Try.underlying3 (a := 0) (by decide)) (kl_is k)
  obtain ⟨c, rfl, hc, hwc⟩ := plainElem_int_inv Try.underlying3 hv
  simp only [Prod.mk.injEq] at hc
  obtain ⟨h1, h2⟩ := hD k
  rw [hrun, h1]
  cases hk : f k with
  | none =>
    rw [hk] at h1
    have := hc.1
    rw [Maps.atKey_of_not_has h1] at this
    injection this with this
    injection this with _ this
    rw [← this]
    rfl
  | some q =>
    have := hc.1
    rw [h2 q hk] at this
    injection this with this
    injection this with _ this
    rw [← this]
    rfl
theorem Mp.put {w : World} {m n : Nat} {f : Key → Option Nat} (h : Mp w m n f) (hn : n < maxLen) (k : Key) (a : Nat) (ha : a ≤ maxLen) :
    ∃ w', (Instr.mapUpdate 46 (.map (some m)) (kv k) (.int .i64 (a : Int))).run Try.prog w = .ok () w' ∧ Mp w' m (n + 1) (fun k' => if k = k' then some a else f k') ∧ Fr (fun b => b = m) w w' := by
  obtain ⟨D, ho, hD⟩ := h
  have hwf : (Lit.int .i64 (a : Int)).wf = true := WalkArith.wf_i64 (by unfold maxLen at ha; omega)
  obtain ⟨w', hrun, ho', hg⟩ := ho.update keyed51 Try.underlying46 hn (kl_is k) (plainElem_int Try.underlying3 hwf)
  refine ⟨w', hrun, ⟨_, ho', fun k' => ?_⟩, (Fr.of_grown hg).mono (fun b _ h => by injection h with h; exact h.symm)⟩
  by_cases hk : k = k'
  · subst hk
    simp only
    refine ⟨Maps.has_put_same ho.isMap (keyed51.key (kl_is k)) _, fun q hq => ?_⟩
    injection hq with hq
    subst hq
    exact Maps.atKey_put_same ho.isMap (keyed51.key (kl_is k)) _ _
  · have hne : klit k' ≠ klit k := fun e => hk (klit_inj.1 e).symm
    simp only [if_neg hk]
    refine ⟨(Maps.has_put_other hne _).trans (hD k').1, fun q hq => ?_⟩
    rw [Maps.atKey_put_other hne]
    exact (hD k').2 q hq
theorem Mp.made (w : World) : Mp (w.alloc (.map #[] 0)) w.heap.size 0 (fun _ => none) := ⟨_, World.ownsMap_made _ _ _ _, fun k => ⟨rfl, fun q h => by cases h⟩⟩
theorem Mp.lt {w : World} {m n : Nat} {f : Key → Option Nat} (h : Mp w m n f) : m < w.heap.size := by obtain ⟨D, ho, _⟩ := h; exact ho.lt
theorem Mp.blk {w : World} {m n : Nat} {f : Key → Option Nat} (h : Mp w m n f) : ∃ es cl, w.heap[m]? = some (.map es cl) := by obtain ⟨D, ⟨es, cl, hb, _⟩, _⟩ := h; exact ⟨es, cl, hb⟩
theorem Mp.fr {S : Nat → Prop} {w w' : World} {m n : Nat} {f : Key → Option Nat} (h : Mp w m n f) (hf : Fr S w w') (hS : ¬ S m) : Mp w' m n f := by
  obtain ⟨D, ⟨es, cl, hb, hr⟩, hD⟩ := h
  exact ⟨D, ⟨es, cl, hf.blk hb hS, hr⟩, hD⟩
theorem Mp.mono {w : World} {m n n' : Nat} {f : Key → Option Nat} (h : Mp w m n f) (hn : n ≤ n') : Mp w m n' f := by
  obtain ⟨D, ho, hD⟩ := h
  exact ⟨D, ho.mono hn, hD⟩

def ic (z : Int) : Value := .int .i64 z
/-- the past of the bytes B, passed up to a, in block p; its map in m, its ring in q -/
structure Past (w : World) (p : Nat) (A : Option Addr) (c : Nat) (B : List UInt8) (m q : Nat) (a : Nat) (V : List Int) : Prop where
  blk : Row w p 49 [.slice A B.length c, .map (some m), .slice (some ⟨q, 0, none⟩) V.length V.length]
  mp : Mp w m a (lastF B a)
  row : Row w q 3 (V.map ic)
  ring : Ring B a V
section
variable {w w' : World} {p c m q a : Nat} {A : Option Addr} {B : List UInt8} {V : List Int}
theorem Past.fr {S : Nat → Prop} (h : Past w p A c B m q a V) (hf : Fr S w w') (hS : ∀ b, b = p ∨ b = m ∨ b = q → ¬ S b) : Past w' p A c B m q a V :=
  ⟨h.blk.fr hf (hS _ (.inl rfl)), h.mp.fr hf (hS _ (.inr (.inl rfl))), h.row.fr hf (hS _ (.inr (.inr rfl))), h.ring⟩
theorem Past.ne (h : Past w p A c B m q a V) : p ≠ m ∧ p ≠ q ∧ m ≠ q := by
  have h1 : w.heap[p]? = _ := h.blk
  have h2 : w.heap[q]? = _ := h.row
  obtain ⟨es, cl, h3⟩ := h.mp.blk
  refine ⟨fun e => ?_, fun e => ?_, fun e => ?_⟩
  · rw [e, h3] at h1; cases h1
  · rw [e, h2] at h1; injection h1 with h1; injection h1 with _ h1; exact absurd h1 (by decide)
  · rw [e, h2] at h3; cases h3
theorem Past.c0 (h : Past w p A c B m q a V) : w.cell? ⟨p, 0, none⟩ = some (.slice A B.length c) := h.blk.cell rfl
theorem Past.c1 (h : Past w p A c B m q a V) : w.cell? ⟨p, 1, none⟩ = some (.map (some m)) := h.blk.cell rfl
theorem Past.c2 (h : Past w p A c B m q a V) : w.cell? ⟨p, 2, none⟩ = some (.slice (some ⟨q, 0, none⟩) V.length V.length) := h.blk.cell rfl
end
end Go.Proofs.Ytgieckdfbkonpaa
