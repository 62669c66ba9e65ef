/-
  Layer 6: the map of the program's press, keyed by three bytes; its past in memory.
  Layer 6, the program: three.
  Layer 6, the program: nearest, same, size.
  Layer 6, the program: begin.
  Layer 6, the program: pass.
-/
import Derived.Test.YtahfmcdhcbfkaaaGreatDoorZm02
import Derived.Test.YtahfmcdhcbfkaaaGreatDoorZm06
import Derived.Test.YtahfmcdhcbfkaaaGreatDoorZm04
import Derived.Maps.OwnSet
import Derived.WideKeyArgs
import Derived.DeepKeys4
import Derived.Deep.DeepCutAuto
import Derived.Laws.Cover3
import Derived.Test.YtahfmcdhcbfkaaaGreatDoorZm08
import Derived.Deep.RegionHeld3
import Derived.StillTailTactics
namespace Go.Proofs.YtahfmcdhcbfkaaaGreatDoor
open Go.RowKit LzM LzN Mem Go.Lib Go.Maps Go.WideElems

/-- three bytes as an array, as a key's reading -/
def kc (k : Key) : Array Value := #[bytec k.1, bytec k.2.1, bytec k.2.2]
def kv (k : Key) : Value := .agg (kc k)
def klit (k : Key) : Lit := .string [k.1, k.2.1, k.2.2]
theorem klit_inj {k k' : Key} : klit k = klit k' ↔ k = k' := by
  obtain ⟨a, b, c⟩ := k
  obtain ⟨a', b', c'⟩ := k'
  simp [klit]
theorem cells51 : Tryz.prog.cellsOf 90 = 3 := by kernel_rfl
theorem cells5 : Tryz.prog.cellsOf 5 = 1 := by kernel_rfl
theorem key51 : Tryz.prog.keyType 90 = true := by kernel_rfl
theorem byte_lit (b : UInt8) : (Lit.int .u8 (b.toNat : Int)).wf = true := by
  have h := b.toNat_lt
  simp [Lit.wf, IntKind.min, IntKind.max, IntKind.signed, IntKind.bits]
  omega
theorem byte_key (b : UInt8) : Lit.keyBytes (.int .u8 (b.toNat : Int)) = [b] := by
  have h := b.toNat_lt
  have e : ((b.toNat : Int) % 256).toNat = b.toNat := by omega
  simp [Lit.keyBytes, bytesBE, bytesLE, IntKind.bits, e]
theorem types51 : ∃ d, Tryz.prog.types.size = d + 1 := ⟨Tryz.prog.types.size - 1, by kernel_rfl⟩
theorem lits5 (d : Nat) (b : UInt8) : Tryz.prog.keyLits (d + 1) 5 [bytec b] = some [.int .u8 (b.toNat : Int)] := by
  simp [Program.keyLits, Tryz.underlying5, bytec, byte_lit]
theorem kl_is (k : Key) : keyOf Tryz.prog 90 (kv k) = some (klit k) := by
  obtain ⟨a, b, c⟩ := k
  obtain ⟨d, hd⟩ := types51
  have hf : (kv (a, b, c)).formed Tryz.prog 90 = true := by simp [Value.formed, kv, kc, Tryz.underlying90, cells51]
  have hl : Tryz.prog.keyLits (d + 1 + 1) 90 [bytec a, bytec b, bytec c] = some [.int .u8 (a.toNat : Int), .int .u8 (b.toNat : Int), .int .u8 (c.toNat : Int)] := by
    unfold Program.keyLits
    simp [Tryz.underlying90, cells51, cells5, lits5, List.range, List.range.loop]
  have hc : (kv (a, b, c)).cells.toList = [bytec a, bytec b, bytec c] := rfl
  unfold keyOf
  rw [Tryz.underlying90, key51, hf, hd, hc, hl]
  simp [keyBytes, byte_key, klit]
theorem keyed51 : Keyed Tryz.prog 90 := Keyed.of_law (deep_law_laid laid_out (m := 2) (by omega) (of_decide_eq_true (by kernel_rfl)) (by kernel_rfl) (by rw [Tryz.underlying90]))
theorem zero3 (w : World) : (zeroValue 3).run Tryz.prog w = .ok (.int .i64 0) w := by kernel_rfl

/-- block m is a map of at most n entries: these keys, at these places -/
def Mp (w : World) (m n : Nat) (f : Key → Option Nat) : Prop :=
  ∃ D : DataW Unit, w.ownsMap Tryz.prog 90 (plainElem Tryz.prog 3) m n D ∧ ∀ k, Maps.has D (klit k) = (f k).isSome ∧ ∀ q, f k = some q → D.atKey (klit k) (.lit (.int .i64 0)) = .lit (.int .i64 (q : Int))
def lookI : Option Nat → Int
  | some q => (q : Int)
  | none => 0
set_option maxRecDepth 100000 in
theorem Mp.look {w : World} {m n : Nat} {f : Key → Option Nat} (h : Mp w m n f) (k : Key) :
    (Instr.lookup 87 (.map (some m)) (kv k) true).run Tryz.prog w = .ok (.tuple #[.int .i64 (lookI (f k)), .bool (f k).isSome]) w := by
  obtain ⟨D, ho, hD⟩ := h
  obtain ⟨v, ps, hrun, hv⟩ := ho.look_ok keyed51 Tryz.underlying87 (zero3 w) (plainElem_int Tryz.underlying3 (a := 0) (by decide)) (kl_is k)
  obtain ⟨c, rfl, hc, hwc⟩ := plainElem_int_inv Tryz.underlying3 hv
  simp only [Prod.mk.injEq] at hc
  obtain ⟨h1, h2⟩ := hD k
  rw [hrun, h1]
  cases hk : f k with
  | none =>
    rw [hk] at h1
    have := hc.1
    rw [Maps.atKey_of_not_has h1] at this
    injection this with this
    injection this with _ this
    rw [← this]
    rfl
  | some q =>
    have := hc.1
    rw [h2 q hk] at this
    injection this with this
    injection this with _ this
    rw [← this]
    rfl
set_option maxRecDepth 100000 in
theorem Mp.put {w : World} {m n : Nat} {f : Key → Option Nat} (h : Mp w m n f) (hn : n < maxLen) (k : Key) (a : Nat) (ha : a ≤ maxLen) :
    ∃ w', (Instr.mapUpdate 87 (.map (some m)) (kv k) (.int .i64 (a : Int))).run Tryz.prog w = .ok () w' ∧ Mp w' m (n + 1) (fun k' => if k = k' then some a else f k') ∧ Fr (fun b => b = m) w w' := by
  obtain ⟨D, ho, hD⟩ := h
  have hwf : (Lit.int .i64 (a : Int)).wf = true := WalkArith.wf_i64 (by unfold maxLen at ha; omega)
  obtain ⟨w', hrun, ho', hg⟩ := ho.update keyed51 Tryz.underlying87 hn (kl_is k) (plainElem_int Tryz.underlying3 hwf)
  refine ⟨w', hrun, ⟨_, ho', fun k' => ?_⟩, (Fr.of_grown hg).mono (fun b _ h => by injection h with h; exact h.symm)⟩
  by_cases hk : k = k'
  · subst hk
    simp only
    refine ⟨Maps.has_put_same ho.isMap (keyed51.key (kl_is k)) _, fun q hq => ?_⟩
    injection hq with hq
    subst hq
    exact Maps.atKey_put_same ho.isMap (keyed51.key (kl_is k)) _ _
  · have hne : klit k' ≠ klit k := fun e => hk (klit_inj.1 e).symm
    simp only [if_neg hk]
    refine ⟨(Maps.has_put_other hne _).trans (hD k').1, fun q hq => ?_⟩
    rw [Maps.atKey_put_other hne]
    exact (hD k').2 q hq
theorem Mp.made (w : World) : Mp (w.alloc (.map #[] 0)) w.heap.size 0 (fun _ => none) := ⟨_, World.ownsMap_made _ _ _ _, fun k => ⟨rfl, fun q h => by cases h⟩⟩
theorem Mp.lt {w : World} {m n : Nat} {f : Key → Option Nat} (h : Mp w m n f) : m < w.heap.size := by obtain ⟨D, ho, _⟩ := h; exact ho.lt
theorem Mp.blk {w : World} {m n : Nat} {f : Key → Option Nat} (h : Mp w m n f) : ∃ es cl, w.heap[m]? = some (.map es cl) := by obtain ⟨D, ⟨es, cl, hb, _⟩, _⟩ := h; exact ⟨es, cl, hb⟩
theorem Mp.fr {S : Nat → Prop} {w w' : World} {m n : Nat} {f : Key → Option Nat} (h : Mp w m n f) (hf : Fr S w w') (hS : ¬ S m) : Mp w' m n f := by
  obtain ⟨D, ⟨es, cl, hb, hr⟩, hD⟩ := h
  exact ⟨D, ⟨es, cl, hf.blk hb hS, hr⟩, hD⟩
theorem Mp.mono {w : World} {m n n' : Nat} {f : Key → Option Nat} (h : Mp w m n f) (hn : n ≤ n') : Mp w m n' f := by
  obtain ⟨D, ho, hD⟩ := h
  exact ⟨D, ho.mono hn, hD⟩

def ic (z : Int) : Value := .int .i64 z
/-- the past of the bytes B, passed up to a, in block p; its map in m, its ring in q -/
structure Past (w : World) (p : Nat) (A : Option Addr) (c : Nat) (B : List UInt8) (m q : Nat) (a : Nat) (V : List Int) : Prop where
  blk : Row w p 89 [.slice A B.length c, .map (some m), .slice (some ⟨q, 0, none⟩) V.length V.length]
  mp : Mp w m a (lastF B a)
  row : Row w q 3 (V.map ic)
  ring : Ring B a V
section
variable {w w' : World} {p c m q a : Nat} {A : Option Addr} {B : List UInt8} {V : List Int}
theorem Past.fr {S : Nat → Prop} (h : Past w p A c B m q a V) (hf : Fr S w w') (hS : ∀ b, b = p ∨ b = m ∨ b = q → ¬ S b) : Past w' p A c B m q a V :=
  ⟨h.blk.fr hf (hS _ (.inl rfl)), h.mp.fr hf (hS _ (.inr (.inl rfl))), h.row.fr hf (hS _ (.inr (.inr rfl))), h.ring⟩
theorem Past.ne (h : Past w p A c B m q a V) : p ≠ m ∧ p ≠ q ∧ m ≠ q := by
  have h1 : w.heap[p]? = _ := h.blk
  have h2 : w.heap[q]? = _ := h.row
  obtain ⟨es, cl, h3⟩ := h.mp.blk
  refine ⟨fun e => ?_, fun e => ?_, fun e => ?_⟩
  · rw [e, h3] at h1; cases h1
  · rw [e, h2] at h1; injection h1 with h1; injection h1 with _ h1; exact absurd h1 (by decide)
  · rw [e, h2] at h3; cases h3
theorem Past.c0 (h : Past w p A c B m q a V) : w.cell? ⟨p, 0, none⟩ = some (.slice A B.length c) := h.blk.cell rfl
theorem Past.c1 (h : Past w p A c B m q a V) : w.cell? ⟨p, 1, none⟩ = some (.map (some m)) := h.blk.cell rfl
theorem Past.c2 (h : Past w p A c B m q a V) : w.cell? ⟨p, 2, none⟩ = some (.slice (some ⟨q, 0, none⟩) V.length V.length) := h.blk.cell rfl
end
end Go.Proofs.YtahfmcdhcbfkaaaGreatDoor
namespace Go.Proofs.YtahfmcdhcbfkaaaGreatDoor
open Go.RowKit LzM LzN Mem Go.Lib
set_option linter.unusedVariables false

theorem keyT : RowTy Tryz.prog 90 3 := ⟨⟨_, _, Tryz.underlying90⟩, by kernel_rfl⟩
theorem wrap3 {k : Nat} (h : k ≤ 1000000) : IntKind.i64.wrap ((k : Int) + 3) = ((k + 3 : Nat) : Int) := by rw [IntWalk.i64_left]; unfold wrap64; omega
/-- an array out of the middle of a row -/
theorem load_at {w : World} {ad : Addr} {xs : List Value} {ty : TypeId} {n : Nat} (hT : RowTy Tryz.prog ty n) (hn : xs.length = n) (h : ∀ j v, xs[j]? = some v → w.cell? (ad.add j) = some v) : (Instr.loadAt ty (.pointer (some ad))).run Tryz.prog w = .ok (.agg xs.toArray) w := by
  obtain ⟨m, e, hu⟩ := hT.und
  have hl := run_loadCells_list (P := Tryz.prog) w ad xs h
  have hs := hT.size
  cases hq : (Tryz.prog).info? ty with
  | none => simp [hq] at hs
  | some i =>
    have hs1 : i.size = xs.length := by rw [hn]; simpa [hq] using hs
    simp [Instr.loadAt, Instr.sureAddr, loadVar, isAgg, run_underlying hu, sizeOf, typeInfo, hq, hs1, hl]
theorem wpList_load_run {ty : TypeId} {ops : Array Oper} {rest : List Oper} {op : Oper} {a : Act} {w : World} {Q : Exit → Act → World → Prop} (hgd : op.guard = none) (x : Operand) (ho : op.op = .load ty x)
    (u v : Value) (hx : a.eval x = u) (hr : (Instr.loadAt ty u).run Tryz.prog w = .ok v w) (h : wpList Tryz.prog ops Q rest (a.put op.dst v) w) : wpList Tryz.prog ops Q (op :: rest) a w := by
  refine wpList_plain hgd fun K hK => ?_
  unfold Oper.wp execOp
  simp only [ho, hx, hr, Sem.run_bind, Sem.run_pure, Result.andThen_ok]
  exact hK _ _ h

set_option maxRecDepth 100000 in
set_option maxHeartbeats 1600000 in
theorem three_any (p : Nat) (A : Option Addr) (n c : Nat) (B : List UInt8) (a : Nat) (w : World) (h0 : w.cell? ⟨p, 0, none⟩ = some (.slice A n c)) (hB : Rd w A n (B.map bytec)) (ha : a + 3 ≤ n) (hn : n ≤ 1000000) (hc : n ≤ c) (hcm : c ≤ maxLen) :
    Calls Tryz.prog 58 #[.pointer (some ⟨p, 0, none⟩), .int .i64 (a : Int)] w fun e w' => e = .returned (kv (key B a)) ∧ Fr (fun _ => False) w w' := by
  have HR := Lib.hid hB
  have H0 := Lib.hid h0
  have e3 := wrap3 (k := a) (by omega)
  obtain ⟨b, hb⟩ : ∃ b, b = a + 3 := ⟨_, rfl⟩
  rw [← hb] at e3
  have hbn : b ≤ n := by omega
  unfold maxLen at hcm
  obtain ⟨K, hK⟩ : ∃ K, K = kc (key B a) := ⟨_, rfl⟩
  unfold kv
  rw [← hK]
  have HK := Lib.hid hK
  have HSZ : Hid (K.size = 3) := Lib.hid (by rw [hK]; rfl)
  have HONE : Hid (K.all (·.oneCell') = true) := Lib.hid (by rw [hK]; simp [kc, bytec, Value.oneCell'])
  have HBE := Lib.hid hb
  clear hB h0 hK
  go_enter Tryz.func58, Tryz.ntmps58
  go_upto_region 1 with fail
  obtain ⟨w0, hw0⟩ : ∃ w0, w.alloc (.cells #[.int .u8 0, .int .u8 0, .int .u8 0] 90) = w0 := ⟨_, rfl⟩
  change Code.wp _ _ _ _ (w.alloc (.cells #[.int .u8 0, .int .u8 0, .int .u8 0] 90))
  rw [hw0]
  have hres0 : w0.heap[w.heap.size]? = some (.cells #[.int .u8 0, .int .u8 0, .int .u8 0] 90 (0, 0)) := by rw [← hw0]; exact heap_alloc_new w _
  have hf0 : Fr (fun _ => False) w w0 := by rw [← hw0]; exact (Fr.refl _ _).alloc _
  obtain ⟨g, hg⟩ : ∃ g, g = w.heap.size := ⟨_, rfl⟩
  rw [← hg] at hres0 ⊢
  have HG := Lib.hid hg
  have HRES := Lib.hid hres0
  have HF0 := Lib.hid hf0
  have c0 := hf0.cell H0.out (fun h => h)
  obtain ⟨ad, rfl, hr⟩ := (HR.out.fr hf0 (fun _ _ h => h)).2 (by omega)
  have hln : B.length = n := by simpa using HR.out.1
  have hl : (Instr.loadAt 90 (.pointer (some (ad.add a)))).run Tryz.prog w0 = .ok (.agg K) w0 := by
    rw [HK.out]
    refine load_at keyT (xs := [bytec B[a]!, bytec B[a + 1]!, bytec B[a + 2]!]) rfl (fun j v hj => ?_)
    rw [add_add]
    refine hr _ v ?_
    match j, hj with
    | 0, hj => rw [← hj, Nat.add_zero, List.getElem?_map, List.getElem?_eq_getElem (by omega), getElem!_pos B a (by omega)]; rfl
    | 1, hj => rw [← hj, List.getElem?_map, List.getElem?_eq_getElem (by omega), getElem!_pos B (a + 1) (by omega)]; rfl
    | 2, hj => rw [← hj, List.getElem?_map, List.getElem?_eq_getElem (by omega), getElem!_pos B (a + 2) (by omega)]; rfl
  have HL := Lib.hid hl
  have hat : ∀ w, (Instr.arrayAt 90 (.slice (some (ad.add a)) 3 (c - a))).run Tryz.prog w = .ok (.pointer (some (ad.add a))) w := fun w => run_arrayAt w 90 _ 3 _ 3 (c - a) Tryz.underlying90 (by omega)
  clear hw0 hg hres0 hf0 hr hln hl
  go_wp2_with (first | (refine wpList_load_run rfl (.tmp 13) rfl (.pointer (some (ad.add a))) (.agg K) rfl HL.out ?_) | (refine wpList_store_blk keyT rfl (.tmp 4) (.tmp 14) rfl g rfl K rfl _ _ HRES.out HSZ.out rfl HONE.out ?_))
  intro w3 hg3 hf3
  have HG3 := Lib.hid hg3
  have HF3 : Hid (Fr (fun _ => False) w w3) := Lib.hid (HF0.out.trans hf3 (fun b hb e => by have := HG.out; omega))
  clear hg3 hf3
  go_wp2_with fail
  exact bodyPost_ret (v := .agg K) (results_blk keyT rfl g rfl K _ HG3.out HSZ.out) rfl ⟨rfl, HF3.out⟩
end Go.Proofs.YtahfmcdhcbfkaaaGreatDoor
namespace Go.Proofs.YtahfmcdhcbfkaaaGreatDoor
open Go.RowKit LzM LzN Mem Go.Lib
set_option linter.unusedVariables false

theorem look_num (o : Option Nat) : (if o.isSome = true then lookI o else (-1 : Int)) = num o := by cases o <;> rfl

set_option maxRecDepth 100000 in
set_option maxHeartbeats 1600000 in
theorem nearest_any (p : Nat) (A : Option Addr) (n c m N : Nat) (B : List UInt8) (f : Key → Option Nat) (a : Nat) (w : World) (h0 : w.cell? ⟨p, 0, none⟩ = some (.slice A n c)) (h1 : w.cell? ⟨p, 1, none⟩ = some (.map (some m))) (hM : Mp w m N f)
    (hB : Rd w A n (B.map bytec)) (ha : a + 3 ≤ n) (hn : n ≤ 1000000) (hc : n ≤ c) (hcm : c ≤ maxLen) :
    Calls Tryz.prog 57 #[.pointer (some ⟨p, 0, none⟩), .int .i64 (a : Int)] w fun e w' => e = .returned (.int .i64 (num (f (key B a)))) ∧ Fr (fun _ => False) w w' := by
  have HR := Lib.hid hB
  have H0 := Lib.hid h0
  have HM := Lib.hid hM
  have HA := Lib.hid (And.intro ha (And.intro hn (And.intro hc hcm)))
  obtain ⟨K, hK⟩ : ∃ K, K = kv (key B a) := ⟨_, rfl⟩
  obtain ⟨z, hz⟩ : ∃ z, z = lookI (f (key B a)) := ⟨_, rfl⟩
  obtain ⟨q, hq⟩ : ∃ q, q = (f (key B a)).isSome := ⟨_, rfl⟩
  have hN := look_num (f (key B a))
  rw [← hz, ← hq] at hN
  have hlk : ∀ w', Mp w' m N f → (Instr.lookup 87 (.map (some m)) K true).run Tryz.prog w' = .ok (.tuple #[.int .i64 z, .bool q]) w' := by
    intro w' h
    rw [hK, hz, hq]
    exact h.look _
  have HLK := Lib.hid hlk
  have hth : ∀ w', Rd w' A n (B.map bytec) → w'.cell? ⟨p, 0, none⟩ = some (.slice A n c) → Calls Tryz.prog 58 #[.pointer (some ⟨p, 0, none⟩), .int .i64 (a : Int)] w' fun e w2 => e = .returned K ∧ Fr (fun _ => False) w' w2 := by
    intro w' h1 h2
    rw [hK]
    exact three_any p A n c B a w' h2 h1 ha hn hc hcm
  have HTH := Lib.hid hth
  rw [← hN]
  clear hB h0 hM ha hn hc hcm hK hz hq hlk hth hN
  cases q
  all_goals go_enter Tryz.func57, Tryz.ntmps57
  all_goals go_wp2_with fail
  all_goals go_region_held3 (fun w' => w'.cell? ⟨p, 1, none⟩ = some (.map (some m)))
    (first
      | go_keep
      | exact hk2)
    (first
      | (go_at_call 58
         refine (HTH.out w.drew HR.out.drew H0.out).mono ?_
         rintro e w2 ⟨rfl, hf2⟩
         have hk2 : w2.cell? ⟨p, 1, none⟩ = some (.map (some m)) := hf2.cell (w := w.drew) h1 (fun h => h)
         have hl2 := HLK.out w2 (HM.out.fr ((Fr.refl (fun _ => False) w).drew.trans hf2 (fun _ _ h => h)) (fun h => h))
         have HF2 := Lib.hid ((Fr.refl (fun _ => False) w).drew.trans hf2 (fun _ _ h => h))
         clear hf2))
  all_goals go_wp2_with fail
  all_goals go_ret
  all_goals exact ⟨rfl, HF2.out⟩

/-- as many are the same from the beginning on: k -/
def Same (X Y : List UInt8) (k : Nat) : Prop := k ≤ Y.length ∧ (∀ j, j < k → X[j]! = Y[j]!) ∧ (k = Y.length ∨ X[k]! ≠ Y[k]!)
theorem rd_byte {w : World} {A : Option Addr} {n : Nat} {X : List UInt8} (h : Rd w A n (X.map bytec)) {k : Nat} (hk : k < n) : ∃ ad, A = some ad ∧ w.cell? (ad.add k) = some (.int .u8 ((X[k]!).toNat : Int)) := by
  have hl : X.length = n := by simpa using h.1
  obtain ⟨ad, u, e, h1, h2⟩ := h.at_ hk
  rw [List.getElem?_map, List.getElem?_eq_getElem (by omega)] at h1
  refine ⟨ad, e, ?_⟩
  rw [h2, getElem!_pos X k (by omega), ← h1]
  rfl

set_option maxRecDepth 100000 in
set_option maxHeartbeats 1600000 in
theorem sameT_any (A A2 : Option Addr) (n c c2 : Nat) (X Y : List UInt8) (w : World) (hX : Rd w A n (X.map bytec)) (hY : Rd w A2 n (Y.map bytec)) (hn : n ≤ 1000000) :
    Calls Tryz.prog 59 #[.slice A n c, .slice A2 n c2] w fun e w' => ∃ k, e = .returned (.int .i64 ((k : Nat) : Int)) ∧ Same X Y k ∧ w = w' := by
  have hlx : X.length = n := by simpa using hX.1
  have hly : Y.length = n := by simpa using hY.1
  have HX := Lib.hid hX
  have HY := Lib.hid hY
  have HL := Lib.hid (And.intro hlx hly)
  clear hX hY hlx hly
  go_enter Tryz.func59, Tryz.ntmps59
  go_wp2_with fail
  go_loopw [9] (fun i wr => ∃ k : Nat, k ≤ n ∧ i = .int .i64 (k : Int) ∧ Hid (∀ j, j < k → X[j]! = Y[j]!) ∧ w = wr) (fun i _ => n - (intOf i).toNat)
  case atStart => exact ⟨0, Nat.zero_le _, rfl, fun j hj => by omega, rfl⟩
  case round =>
    obtain ⟨k, hk, rfl, HE, rfl⟩ := hrel
    by_cases hlt : k < n
    · obtain ⟨ad, rfl, h1⟩ := rd_byte HX.out hlt
      obtain ⟨ad2, rfl, h2⟩ := rd_byte HY.out hlt
      obtain ⟨x, hx⟩ : ∃ x, x = X[k]! := ⟨_, rfl⟩
      obtain ⟨y, hy⟩ : ∃ y, y = Y[k]! := ⟨_, rfl⟩
      rw [← hx] at h1
      rw [← hy] at h2
      have HXY := Lib.hid (And.intro hx hy)
      obtain ⟨u, hu⟩ : ∃ u, u = x.toNat := ⟨_, rfl⟩
      obtain ⟨v, hv⟩ : ∃ v, v = y.toNat := ⟨_, rfl⟩
      rw [← hu] at h1
      rw [← hv] at h2
      have HUV := Lib.hid (And.intro hu hv)
      clear hx hy hu hv
      by_cases hxy : u = v
      · have hE : ∀ j, j < k + 1 → X[j]! = Y[j]! := by
          intro j hj
          by_cases e : j = k
          · rw [e, ← HXY.out.1, ← HXY.out.2]
            exact UInt8.toNat_inj.1 (HUV.out.1.symm.trans (hxy.trans HUV.out.2))
          · exact HE.out j (by omega)
        have HE2 := Lib.hid hE
        clear hE
        go_wp2_with fail
        exact ⟨⟨k + 1, by omega, by go_num, HE2.out, trivial⟩, by simp [intOf]; omega⟩
      · go_wp2_with fail
        go_ret
        refine ⟨k, rfl, ⟨by rw [HL.out.2]; omega, HE.out, .inr (fun e => hxy ?_)⟩, rfl⟩
        rw [HUV.out.1, HUV.out.2, HXY.out.1, HXY.out.2, e]
    · obtain rfl : k = n := by omega
      go_wp2_with fail
      go_ret
      exact ⟨k, rfl, ⟨by rw [HL.out.2]; omega, HE.out, .inl HL.out.2.symm⟩, rfl⟩

set_option maxRecDepth 100000 in
theorem size_any (t : Tok) (w : World) :
    Calls Tryz.prog 33 #[tokc t] w fun e w' => e = .returned (.int .i64 (max t.l 1)) ∧ Fr (fun _ => False) w w' := by
  obtain ⟨b, l, d⟩ := t
  unfold tokc bytec
  go_enter Tryz.func33, Tryz.ntmps33
  go_wp2
  all_goals go_ret
  · exact ⟨by rw [show max l 1 = 1 by omega]; rfl, (Fr.refl _ w).alloc _⟩
  · exact ⟨by rw [show max l 1 = l by omega]; rfl, (Fr.refl _ w).alloc _⟩
end Go.Proofs.YtahfmcdhcbfkaaaGreatDoor
namespace Go.Proofs.YtahfmcdhcbfkaaaGreatDoor
open Go.RowKit LzM LzN Mem Go.Lib
set_option linter.unusedVariables false

theorem intT6 : (Tryz.prog.info? 3).map (fun i => (i.zero, i.size, i.bytes)) = some (some (.int .i64 0), 1, 8) := by kernel_rfl
theorem rep_ic (m : Nat) : (Array.replicate m (Value.int .i64 0)) = ((List.replicate m (0 : Int)).map ic).toArray := by
  rw [List.map_replicate, List.toArray_replicate]
  rfl
/-- the past of nothing, as it is laid -/
theorem past_new (A : Option Addr) (c : Nat) (B : List UInt8) (w : World) (M : Nat) (hM : M = min B.length 32768) :
    Past (((w.alloc (.map #[] 0)).alloc (.cells (Array.replicate M (.int .i64 0)) 3)).alloc (.cells #[.slice A B.length c, .map (some w.heap.size), .slice (some ⟨w.heap.size + 1, 0, none⟩) M M] 89)) (w.heap.size + 1 + 1) A c B w.heap.size (w.heap.size + 1) 0 (List.replicate M 0) := by
  have s1 : (w.alloc (.map #[] 0)).heap.size = w.heap.size + 1 := by simp
  have s2 : ((w.alloc (.map #[] 0)).alloc (.cells (Array.replicate M (.int .i64 0)) 3)).heap.size = w.heap.size + 1 + 1 := by simp
  refine ⟨?_, ?_, ?_, ring_zero B _ (by simpa using hM)⟩
  · rw [List.length_replicate, ← s2]
    exact Row.new _ _ _
  · exact (((Mp.made w).fr ((Fr.refl (fun _ => False) _).alloc _) (fun h => h)).fr ((Fr.refl (fun _ => False) _).alloc _) (fun h => h))
  · rw [rep_ic]
    have := Row.new (w.alloc (.map #[] 0)) 3 ((List.replicate M (0 : Int)).map ic)
    rw [s1] at this
    exact this.alloc _

set_option maxRecDepth 100000 in
set_option maxHeartbeats 1600000 in
theorem begin_any (A : Option Addr) (n c : Nat) (B : List UInt8) (w : World) (hB : Rd w A n (B.map bytec)) (hn : n ≤ 1000000) :
    Calls Tryz.prog 31 #[.slice A n c] w fun e w' => ∃ p m q V, e = .returned (.pointer (some ⟨p, 0, none⟩)) ∧ Past w' p A c B m q 0 V ∧ w.heap.size ≤ p ∧ w.heap.size ≤ m ∧ w.heap.size ≤ q ∧ Fr (fun _ => False) w w' := by
  have hmm := @run_makeMap Tryz.prog
  have hln : B.length = n := by simpa using hB.1
  rw [← hln] at hn ⊢
  have hf0 : ∀ (a b c : Obj), Fr (fun _ => False) w (((w.alloc a).alloc b).alloc c) := fun a b c => (((Fr.refl _ w).alloc a).alloc b).alloc c
  have HF := Lib.hid hf0
  have HP := Lib.hid (past_new A c B w)
  clear hf0 hB hln
  by_cases hc : B.length ≤ 32768
  · have hmk := mk_int B.length (by omega)
    go_enter Tryz.func31, Tryz.ntmps31
    go_wp2_with fail
    go_ret
    exact ⟨_, _, _, _, rfl, HP.out B.length (by omega), by omega, by omega, by omega, HF.out _ _ _⟩
  · have hmk : ∀ w, (Instr.makeSlice 36 (.int .i64 32768) (.int .i64 32768)).run Tryz.prog w = .ok (.slice (some ⟨w.heap.size, 0, none⟩) 32768 32768) (w.alloc (.cells (Array.replicate 32768 (.int .i64 0)) 3)) := mk_int 32768 (by omega)
    obtain ⟨R, hR⟩ : ∃ R, R = Array.replicate 32768 (Value.int .i64 0) := ⟨_, rfl⟩
    rw [← hR] at hmk
    have hp := HP.out 32768 (by omega)
    rw [← hR] at hp
    have HPP := Lib.hid hp
    clear hp hR
    go_enter Tryz.func31, Tryz.ntmps31
    go_wp2_with fail
    go_ret
    exact ⟨_, _, _, _, rfl, HPP.out, by omega, by omega, by omega, HF.out _ _ _⟩
end Go.Proofs.YtahfmcdhcbfkaaaGreatDoor
namespace Go.Proofs.YtahfmcdhcbfkaaaGreatDoor
open Go.RowKit LzM LzN Mem Go.Lib
set_option linter.unusedVariables false

theorem Past.free {w : World} {p c m q a : Nat} {A : Option Addr} {B : List UInt8} {V : List Int} (h : Past w p A c B m q a V) (i : Nat) : w.frozen? ⟨q, i, none⟩ = false := h.row.free i

set_option maxRecDepth 100000 in
set_option maxHeartbeats 3200000 in
theorem pass_any (p m q a c : Nat) (A : Option Addr) (B : List UInt8) (V : List Int) (w : World) (hP : Past w p A c B m q a V) (hB : Rd w A B.length (B.map bytec)) (hn : B.length ≤ 1000000) (hc : B.length ≤ c) (hcm : c ≤ maxLen) (han : a < B.length)
    (hA : ∀ ad, A = some ad → ad.block ≠ m ∧ ad.block ≠ q) :
    Calls Tryz.prog 34 #[.pointer (some ⟨p, 0, none⟩), .int .i64 (a : Int)] w fun e w' => ∃ V', e = .returned (.tuple #[]) ∧ Past w' p A c B m q (a + 1) V' ∧ Fr (fun b => b = m ∨ b = q) w w' := by
  obtain ⟨n, hN⟩ : ∃ n, n = B.length := ⟨_, rfl⟩
  have e3 := wrap3 (k := a) (by omega)
  obtain ⟨b, hb⟩ : ∃ b, b = a + 3 := ⟨_, rfl⟩
  have c0 := hP.c0
  have c1 := hP.c1
  have c2 := hP.c2
  have hne := hP.ne
  rw [← hN] at c0 hB hn hc han
  have HB := Lib.hid hB
  have HC := Lib.hid (And.intro hn (And.intro hc (And.intro hcm hA)))
  have HP := Lib.hid hP
  have HNE := Lib.hid hne
  have HC1 := Lib.hid c1
  have HC0 := Lib.hid c0
  by_cases hlt : a + 3 ≤ n
  · obtain ⟨L, hL⟩ : ∃ L, L = V.length := ⟨_, rfl⟩
    have hLm : L = min n 32768 := by rw [hL, hN]; exact hP.ring.1
    rw [← hL] at c2
    obtain ⟨r, hr⟩ : ∃ r, r = a % 32768 := ⟨_, rfl⟩
    have hrL : r < L := by omega
    have hrem : (a : Int).tmod 32768 = (r : Int) := by rw [Int.tmod_eq_emod_of_nonneg (by omega)]; omega
    obtain ⟨u, hu⟩ : ∃ u, V[r]? = some u := ⟨_, List.getElem?_eq_getElem (by omega)⟩
    have hcq : w.cell? ⟨q, r, none⟩ = some (ic u) := hP.row.cell (by rw [List.getElem?_map, hu]; rfl)
    have HCQ := Lib.hid hcq
    obtain ⟨P, hPr⟩ : ∃ P, P = prevI B a := ⟨_, rfl⟩
    have hnear : Calls Tryz.prog 57 #[.pointer (some ⟨p, 0, none⟩), .int .i64 (a : Int)] w.drew fun e w' => e = .returned (.int .i64 P) ∧ Fr (fun _ => False) w.drew w' := by
      rw [hPr]
      exact nearest_any p A n c m a B _ a w.drew c0 c1 (hP.mp.fr (Fr.refl (fun _ => False) w).drew (fun h => h)) hB.drew hlt hn hc hcm
    have HNEAR := Lib.hid hnear
    have HPR := Lib.hid hPr
    have HL := Lib.hid hL
    have HRR := Lib.hid hr
    have hgt : decide ((n : Int) < (a : Int) + 3) = false := decide_eq_false (by omega)
    have HN := Lib.hid hN
    have HBB := Lib.hid hb
    have HLT := Lib.hid hlt
    have hpq : p ≠ q := hne.2.1
    have HLm := Lib.hid hLm
    clear hN hP hB c1 hne hL hu hnear hPr hr hlt hb hcm hA hcq hLm
    go_enter Tryz.func34, Tryz.ntmps34
    go_wp2_with fail
    go_region_held3 (fun w' => w'.cell? ⟨p, 2, none⟩ = some (.slice (some ⟨q, 0, none⟩) L L))
      (first
        | go_keep
        | exact hk2
        | exact hk3)
      (first
        | (go_at_call 57
           refine HNEAR.out.mono ?_
           rintro e w2 ⟨rfl, hf2⟩
           have hk2 : w2.cell? ⟨p, 2, none⟩ = some (.slice (some ⟨q, 0, none⟩) L L) := hf2.cell (w := w.drew) c2 (fun h => h)
           have hq2 : w2.cell? ⟨q, r, none⟩ = some (ic u) := hf2.cell (w := w.drew) HCQ.out (fun h => h)
           have HF2 := Lib.hid ((Fr.refl (fun _ => False) w).drew.trans hf2 (fun _ _ h => h))
           have HP2 := Lib.hid (HP.out.fr HF2.out (fun _ _ h => h))
           have hz2 := HP2.out.free r
           have hk3 : (w2.setCell ⟨q, r, none⟩ (.int .i64 P)).cell? ⟨p, 2, none⟩ = some (.slice (some ⟨q, 0, none⟩) L L) := (Fr.set1 w2 q r _).cell hk2 hpq
           clear hf2))
    obtain ⟨w3, hw3⟩ : ∃ w3, w3 = w2.setCell ⟨q, r, none⟩ (.int .i64 P) := ⟨_, rfl⟩
    rw [← hw3]
    have hf3 : Fr (fun b => b = q) w2 w3 := by rw [hw3]; exact Fr.set1 w2 q r _
    have hrow3 : Row w3 q 3 ((V.set r P).map ic) := by rw [hw3, List.map_set]; exact HP2.out.row.set r _
    have HF3 : Hid (Fr (fun b => b = m ∨ b = q) w w3) := (HF2.out.mono (T := fun b => b = m ∨ b = q) (fun _ _ h => h.elim)).trans hf3 (fun _ _ h => .inr h)
    have hb3 := HP2.out.blk.fr hf3 hpq
    have hm3 := HP2.out.mp.fr hf3 HNE.out.2.2
    have c13 : w3.cell? ⟨p, 1, none⟩ = some (.map (some m)) := hb3.cell rfl
    have hthree : Calls Tryz.prog 58 #[.pointer (some ⟨p, 0, none⟩), .int .i64 (a : Int)] w3.drew fun e w' => e = .returned (kv (key B a)) ∧ Fr (fun _ => False) w3.drew w' := by
      refine three_any p A n c B a w3.drew ?_ ?_ HLT.out HC.out.1 HC.out.2.1 HC.out.2.2.1
      · show w3.cell? ⟨p, 0, none⟩ = _
        rw [HN.out]
        exact hb3.cell rfl
      · exact (HB.out.fr HF3.out (fun ad e h => by have h2 := HC.out.2.2.2 ad e; exact h.elim h2.1 h2.2)).drew
    obtain ⟨K, hK⟩ : ∃ K, K = key B a := ⟨_, rfl⟩
    rw [← hK] at hthree
    have HK := Lib.hid hK
    have HTHREE := Lib.hid hthree
    have HROW3 := Lib.hid hrow3
    have HB3 := Lib.hid hb3
    have HM3 := Lib.hid hm3
    clear hw3 hf3 hrow3 hb3 hm3 hthree hK hk2 hq2 hz2 c2 c0 hk3
    go_wp2_with fail
    go_region_held3 (fun w' => w'.cell? ⟨p, 1, none⟩ = some (.map (some m)))
      (first
        | go_keep
        | exact hk4
        | exact hk5)
      (first
        | (go_at_call 58
           refine HTHREE.out.mono ?_
           rintro e w4 ⟨rfl, hf4⟩
           have hk4 : w4.cell? ⟨p, 1, none⟩ = some (.map (some m)) := hf4.cell (w := w3.drew) c13 (fun h => h)
           have HF4 := Lib.hid ((Fr.refl (fun _ => False) w3).drew.trans hf4 (fun _ _ h => h))
           obtain ⟨w5, hrun, hm5, hf5⟩ := (HM3.out.fr HF4.out (fun h => h)).put (by have := HC.out.1; unfold maxLen; omega) K a (by have := HC.out.1; unfold maxLen; omega)
           have hk5 : w5.cell? ⟨p, 1, none⟩ = some (.map (some m)) := hf5.cell hk4 HNE.out.1
           have HF5 := Lib.hid hf5
           have HM5 := Lib.hid hm5
           clear hf4 hm5 hf5))
    go_wp2_with fail
    go_end0
    have hf25 : Fr (fun b => b = m) w3 w5 := (HF4.out.mono (T := fun b => b = m) (fun _ _ h => h.elim)).trans HF5.out (fun _ _ h => h)
    refine ⟨V.set r P, rfl, ⟨?_, ?_, HROW3.out.fr hf25 (fun e => HNE.out.2.2 e.symm), ?_⟩, HF3.out.trans hf25 (fun _ _ h => .inl h)⟩
    · rw [List.length_set]
      exact HB3.out.fr hf25 HNE.out.1
    · have e : lastF B (a + 1) = fun k' => if K = k' then some a else lastF B a k' := funext (fun k => by rw [HK.out]; exact last_step B a (by rw [← HN.out]; exact HLT.out) k)
      rw [e]
      exact HM5.out
    · rw [HRR.out, HPR.out]
      exact ring_step B a V HP.out.ring (by rw [← HN.out]; exact HLT.out)
  · have hgt : decide ((n : Int) < (a : Int) + 3) = true := decide_eq_true (by omega)
    have HN := Lib.hid hN
    have HLT := Lib.hid hlt
    clear hN hP hB c1 hne hb hcm hA hlt
    go_enter Tryz.func34, Tryz.ntmps34
    go_wp2_with fail
    refine bodyPost_ret (v := .tuple #[]) (by simp [results, Tryz.results34, go_sem]) rfl ?_
    refine ⟨V, rfl, ⟨HP.out.blk, ?_, HP.out.row, ring_stay B a V HP.out.ring (by rw [← HN.out]; exact HLT.out)⟩, Fr.refl _ _⟩
    have e : lastF B (a + 1) = lastF B a := funext (fun k => last_stay B a (by rw [← HN.out]; exact HLT.out) k)
    rw [e]
    exact HP.out.mp.mono (by omega)
end Go.Proofs.YtahfmcdhcbfkaaaGreatDoor
