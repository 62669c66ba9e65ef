/-
  Layer 6, the program: three.
-/
import Derived.Test.YtgieckdfbkonpaaLzE
import Derived.Deep.DeepCutAuto
import Derived.Laws.Cover3
namespace Go.Proofs.Ytgieckdfbkonpaa
open Go.RowKit LzM LzN Mem Go.Lib
set_option linter.unusedVariables false

theorem keyT : RowTy Try.prog 51 3 := ⟨⟨_, _, Try.underlying51⟩, by kernel_rfl⟩
theorem wrap3 {k : Nat} (h : k ≤ 1000000) : IntKind.i64.wrap ((k : Int) + 3) = ((k + 3 : Nat) : Int) := by rw [IntWalk.i64_left]; unfold wrap64; omega
/-- an array out of the middle of a row -/
theorem load_at {w : World} {ad : Addr} {xs : List Value} {ty : TypeId} {n : Nat} (hT : RowTy Try.prog ty n) (hn : xs.length = n) (h : ∀ j v, xs[j]? = some v → w.cell? (ad.add j) = some v) : (Instr.loadAt ty (.pointer (some ad))).run Try.prog w = .ok (.agg xs.toArray) w := by
  obtain ⟨m, e, hu⟩ := hT.und
  have hl := run_loadCells_list (P := Try.prog) w ad xs h
  have hs := hT.size
  cases hq : (Try.prog).info? ty with
  | none => simp [hq] at hs
  | some i =>
    have hs1 : i.size = xs.length := by rw [hn]; simpa [hq] using hs
    simp [Instr.loadAt, Instr.sureAddr, loadVar, isAgg, run_underlying hu, sizeOf, typeInfo, hq, hs1, hl]
theorem wpList_load_run {ty : TypeId} {ops : Array Oper} {rest : List Oper} {op : Oper} {a : Act} {w : World} {Q : Exit → Act → World → Prop} (hgd : op.guard = none) (x : Operand) (ho : op.op = .load ty x)
    (u v : Value) (hx : a.eval x = u) (hr : (Instr.loadAt ty u).run Try.prog w = .ok v w) (h : wpList Try.prog ops Q rest (a.put op.dst v) w) : wpList Try.prog ops Q (op :: rest) a w := by
  refine wpList_plain hgd fun K hK => ?_
  unfold Oper.wp execOp
  simp only [ho, hx, hr, Sem.run_bind, Sem.run_pure, Result.andThen_ok]
  exact hK _ _ h

set_option maxRecDepth 100000 in
set_option maxHeartbeats 1600000 in
theorem three_any (p : Nat) (A : Option Addr) (n c : Nat) (B : List UInt8) (a : Nat) (w : World) (h0 : w.cell? ⟨p, 0, none⟩ = some (.slice A n c)) (hB : Rd w A n (B.map bytec)) (ha : a + 3 ≤ n) (hn : n ≤ 1000000) (hc : n ≤ c) (hcm : c ≤ maxLen) :
    Calls Try.prog 22 #[.pointer (some ⟨p, 0, none⟩), .int .i64 (a : Int)] w fun e w' => e = .returned (kv (key B a)) ∧ Fr (fun _ => False) w w' := by
  have HR := Lib.hid hB
  have H0 := Lib.hid h0
  have e3 := wrap3 (k := a) (by omega)
  obtain ⟨b, hb⟩ : ∃ b, b = a + 3 := ⟨_, rfl⟩
  rw [← hb] at e3
  have hbn : b ≤ n := by omega
  unfold maxLen at hcm
  obtain ⟨K, hK⟩ : ∃ K, K = kc (key B a) := ⟨_, rfl⟩
  unfold kv
  rw [← hK]
  have HK := Lib.hid hK
  have HSZ : Hid (K.size = 3) := Lib.hid (by rw [hK]; rfl)
  have HONE : Hid (K.all (·.oneCell') = true) := Lib.hid (by rw [hK]; simp [kc, bytec, Value.oneCell'])
  have HBE := Lib.hid hb
  clear hB h0 hK
  go_enter Try.func22, Try.ntmps22
  go_upto_region 1 with fail
  obtain ⟨w0, hw0⟩ : ∃ w0, w.alloc (.cells #[.int .u8 0, .int .u8 0, .int .u8 0] 51) = w0 := ⟨_, rfl⟩
  change Code.wp _ _ _ _ (w.alloc (.cells #[.int .u8 0, .int .u8 0, .int .u8 0] 51))
  rw [hw0]
  have hres0 : w0.heap[w.heap.size]? = some (.cells #[.int .u8 0, .int .u8 0, .int .u8 0] 51 (0, 0)) := by rw [← hw0]; exact heap_alloc_new w _
  have hf0 : Fr (fun _ => False) w w0 := by rw [← hw0]; exact (Fr.refl _ _).alloc _
  obtain ⟨g, hg⟩ : ∃ g, g = w.heap.size := ⟨_, rfl⟩
  rw [← hg] at hres0 ⊢
  have HG := Lib.hid hg
  have HRES := Lib.hid hres0
  have HF0 := Lib.hid hf0
  have c0 := hf0.cell H0.out (fun h => h)
  obtain ⟨ad, rfl, hr⟩ := (HR.out.fr hf0 (fun _ _ h => h)).2 (by omega)
  have hln : B.length = n := by simpa using HR.out.1
  have hl : (Instr.loadAt 51 (.pointer (some (ad.add a)))).run Try.prog w0 = .ok (.agg K) w0 := by
    rw [HK.out]
    refine load_at keyT (xs := [bytec B[a]!, bytec B[a + 1]!, bytec B[a + 2]!]) rfl (fun j v hj => ?_)
    rw [add_add]
    refine hr _ v ?_
    match j, hj with
    | 0, hj => rw [← hj, Nat.add_zero, List.getElem?_map, List.getElem?_eq_getElem (by omega), getElem!_pos B a (by omega)]; rfl
    | 1, hj => rw [← hj, List.getElem?_map, List.getElem?_eq_getElem (by omega), getElem!_pos B (a + 1) (by omega)]; rfl
    | 2, hj => rw [← hj, List.getElem?_map, List.getElem?_eq_getElem (by omega), getElem!_pos B (a + 2) (by omega)]; rfl
  have HL := Lib.hid hl
  have hat : ∀ w, (Instr.arrayAt 51 (.slice (some (ad.add a)) 3 (c - a))).run Try.prog w = .ok (.pointer (some (ad.add a))) w := fun w => run_arrayAt w 51 _ 3 _ 3 (c - a) Try.underlying51 (by omega)
  clear hw0 hg hres0 hf0 hr hln hl
  go_wp2_with (first | (refine wpList_load_run rfl (.tmp 13) rfl (.pointer (some (ad.add a))) (.agg K) rfl HL.out ?_) | (refine wpList_store_blk keyT rfl (.tmp 4) (.tmp 14) rfl g rfl K rfl _ _ HRES.out HSZ.out rfl HONE.out ?_))
  intro w3 hg3 hf3
  have HG3 := Lib.hid hg3
  have HF3 : Hid (Fr (fun _ => False) w w3) := Lib.hid (HF0.out.trans hf3 (fun b hb e => by have := HG.out; omega))
  clear hg3 hf3
  go_wp2_with fail
  exact bodyPost_ret (v := .agg K) (results_blk keyT rfl g rfl K _ HG3.out HSZ.out) rfl ⟨rfl, HF3.out⟩
end Go.Proofs.Ytgieckdfbkonpaa
