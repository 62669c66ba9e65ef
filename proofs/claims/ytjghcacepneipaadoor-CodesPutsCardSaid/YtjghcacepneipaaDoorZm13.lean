/-
  Arrays by value that are a whole block: loads, stores, results. Nothing of any program here.
  Contract of layer 5's reference: Right.
-/
import Derived.Test.YtjghcacepneipaaDoorZm00
import Derived.Laws.Rows
import Derived.Laws.Tables
import Derived.OrdersHeld
import Derived.Test.YtjghcacepneipaaDoorZm01
import Derived.Test.YtjghcacepneipaaDoorZm07
namespace Go.Proofs.YtjghcacepneipaaDoor.Mem
open Go Go.RowKit

section
variable {P : Program}
/-- a whole block, read as a slice -/
theorem rd_blk {w : World} {g : Nat} {xs : List Value} {t : TypeId} (h : w.heap[g]? = some (.cells xs.toArray t (0, 0))) : Rd w (some ⟨g, 0, none⟩) xs.length xs := by
  refine ⟨rfl, fun _ => ⟨_, rfl, fun j x hx => ?_⟩⟩
  have hadd : (⟨g, 0, none⟩ : Addr).add j = ⟨g, j, none⟩ := by unfold Addr.add; split <;> simp_all
  rw [hadd, cell_of_row w g j xs.toArray t (0, 0) h]
  simpa using hx
/-- an array type whose values are rows of n cells -/
structure RowTy (P : Program) (ty : TypeId) (n : Nat) : Prop where
  und : ∃ m e, P.underlying ty = some (.array m e)
  size : (P.info? ty).map (·.size) = some n
theorem wpList_load_blk {ty : TypeId} {n : Nat} (hT : RowTy P ty n) {ops : Array Oper} {rest : List Oper} {op : Oper} {a : Act} {w : World} {Q : Exit → Act → World → Prop} (hgd : op.guard = none) (x : Operand) (ho : op.op = .load ty x)
    (g : Nat) (hx : a.eval x = .pointer (some ⟨g, 0, none⟩)) (C : Array Value) (t : TypeId) (hb : w.heap[g]? = some (.cells C t (0, 0))) (hn : C.size = n)
    (h : wpList P ops Q rest (a.put op.dst (.agg C)) w) : wpList P ops Q (op :: rest) a w := by
  obtain ⟨m, e, hu⟩ := hT.und
  refine wpList_plain hgd fun K hK => ?_
  unfold Oper.wp execOp
  simp only [ho, hx, Instr.loadAt, Instr.sureAddr, Sem.run_bind, Sem.run_pure, Result.andThen_ok, run_loadVar_row w g t ty C (0, 0) (.array m e) hb hu rfl (by rw [hT.size, hn])]
  exact hK _ _ h
theorem wpList_store_blk {ty : TypeId} {n : Nat} (hT : RowTy P ty n) {ops : Array Oper} {rest : List Oper} {op : Oper} {a : Act} {w : World} {Q : Exit → Act → World → Prop} (hgd : op.guard = none) (x y : Operand) (ho : op.op = .store ty x y)
    (g : Nat) (hx : a.eval x = .pointer (some ⟨g, 0, none⟩)) (C : Array Value) (hy : a.eval y = .agg C) (old : Array Value) (t : TypeId) (hb : w.heap[g]? = some (.cells old t (0, 0))) (hn : C.size = n) (ho2 : old.size = n) (h1 : C.all (·.oneCell') = true)
    (h : ∀ w', w'.heap[g]? = some (.cells C t (0, 0)) → Fr (fun b => b = g) w w' → wpList P ops Q rest (a.put op.dst undef) w') : wpList P ops Q (op :: rest) a w := by
  refine wpList_plain hgd fun K hK => ?_
  unfold Oper.wp execOp
  simp only [ho, hx, hy, Instr.storeAt, Instr.sureAddr, Sem.run_bind, Sem.run_pure, Result.andThen_ok, run_storeVar_row w g t ty old C hb (by rw [hT.size, hn]) (by rw [ho2, hn]) h1]
  exact hK _ _ (h _ (setRow_heap w g old C t (0, 0) hb) ⟨rfl, rfl, rfl, by simp [World.setRow], fun b _ hs => setRow_other w g b C hs⟩)
/-- the function's one result lies in a block of its own -/
theorem results_blk {ty : TypeId} {n : Nat} (hT : RowTy P ty n) {fn : Func} {s : Tmp} {tmps : Array Value} {w : World} (hr : fn.results = #[.cell s ty]) (g : Nat) (hs : tmps.getD s undef = .pointer (some ⟨g, 0, none⟩))
    (C : Array Value) (t : TypeId) (hb : w.heap[g]? = some (.cells C t (0, 0))) (hn : C.size = n) : (results fn tmps).run P w = .ok (.agg C) w := by
  obtain ⟨m, e, hu⟩ := hT.und
  have hl := run_loadVar_row (P := P) w g t ty C (0, 0) (.array m e) hb hu rfl (by rw [hT.size, hn])
  have hs' : tmps[s]?.getD undef = .pointer (some ⟨g, 0, none⟩) := by rw [← hs]; simp
  unfold results
  rw [hr]
  simp [hs', asAddr, hl]
/-- a whole block, read in a region that draws its order, under a condition that gives it -/
theorem yields_blk {ty : TypeId} {n : Nat} (hT : RowTy P ty n) {ops : Array Oper} {S : World → Prop} {op : Oper} {a : Act} (hw : Region.wanted op (yielded ops a.tmps) = true) (x : Operand) (ho : op.op = .load ty x)
    (g : Nat) (hx : a.eval x = .pointer (some ⟨g, 0, none⟩)) (C : Array Value) (t : TypeId) (hS : ∀ w, S w → w.heap[g]? = some (.cells C t (0, 0))) (hn : C.size = n) : YieldsIf P ops S op (.agg C) a := by
  obtain ⟨m, e, hu⟩ := hT.und
  exact .inl ⟨hw, fun w hw' => by
    unfold execOp
    simp only [ho, hx, Instr.loadAt, Instr.sureAddr, Sem.run_bind, Sem.run_pure, Result.andThen_ok, run_loadVar_row w g t ty C (0, 0) (.array m e) (hS w hw') hu rfl (by rw [hT.size, hn])]⟩
/-- 'x[i]' of an array by value, of elements of one cell -/
theorem run_index_agg {ty e : TypeId} {n : Nat} {d : TypeDesc} (hu : P.underlying ty = some (.array n e)) (he : P.underlying e = some d) (hd : (match d with | .struct _ | .array _ _ => false | _ => true) = true) (hs : (P.info? e).map (·.size) = some 1)
    (cs : Array Value) (k : IntKind) (i : Nat) (v : Value) (hi : i < n) (hv : cs[i]? = some v) (w : World) : (Instr.index ty (.agg cs) (.int k (i : Int))).run P w = .ok v w := by
  have h0 : (0 : Int) ≤ (i : Int) ∧ (i : Int) < (n : Int) := by omega
  have hagg : (isAgg e).run P w = .ok false w := by
    unfold isAgg
    rw [Sem.run_bind, run_underlying he w]
    cases d <;> simp_all
  cases hq : P.info? e with
  | none => simp [hq] at hs
  | some inf =>
    have hs1 : inf.size = 1 := by simpa [hq] using hs
    simp [Instr.index, asIntOf, run_underlying hu, sizeOf, typeInfo, hq, hs1, part, hagg, hv, hi]
end
end Go.Proofs.YtjghcacepneipaaDoor.Mem
namespace Go.Proofs.YtjghcacepneipaaDoor
open Go.RowKit HuffM Mem Go.Lib



set_option maxRecDepth 100000 in
set_option maxHeartbeats 1600000 in
theorem rRight_any (A : Option Addr) (n c : Nat) (L : List Int) (w : World) (hr : Rd w A n (L.map intc)) (hn : n ≤ 1000) :
    Calls Tryd.prog 43 #[.slice A n c] w fun e w' => e = .returned (.bool (rightB L)) ∧ w = w' := by
  have hln : L.length = n := by simpa using hr.1
  have HR := Lib.hid hr
  have HLN := Lib.hid hln
  clear hr hln
  go_enter Tryd.func43, Tryd.ntmps43
  go_wp2
  go_loop [3, 4, 5, 6] (fun a b d i => ∃ k s m o : Nat, k ≤ n ∧ i = .int .i64 (k : Int) ∧ a = .int .i64 (s : Int) ∧ b = .int .i64 (m : Int) ∧ d = .int .i64 (o : Int) ∧ s ≤ 32768 * k ∧ m ≤ k ∧ o ≤ k ∧
    Hid (s = rsum (L.take k)) ∧ Hid (m = many (L.take k)) ∧ Hid (o = ones (L.take k)) ∧ Hid ((L.take k).all inR = true)) (fun _ _ _ i => n - (intOf i).toNat)
  case atStart => exact ⟨0, 0, 0, 0, by omega, rfl, rfl, rfl, rfl, by omega, by omega, by omega, rfl, rfl, rfl, rfl⟩
  case round =>
    obtain ⟨k, s, m, o, hk, rfl, rfl, rfl, rfl, hs, hm, ho, Hs, Hm, Ho, Ha⟩ := hrel
    by_cases hlt : k < n
    · obtain ⟨ad, u, rfl, hu, hcell⟩ := HR.out.at_ hlt
      obtain ⟨x, hx⟩ : ∃ x, L[k]? = some x := ⟨_, List.getElem?_eq_getElem (by have := HLN.out; omega)⟩
      obtain rfl : intc x = u := by simpa [hx] using hu
      unfold intc at hcell
      have HX := Lib.hid hx
      clear hu hx
      rcases (show x < 0 ∨ 15 < x ∨ x = 0 ∨ x = 1 ∨ (2 ≤ x ∧ x ≤ 15) by omega) with h | h | h | h | ⟨h, h'⟩
      · have hno : rightB L = false := not_right HX.out (by simp [inR]; omega)
        have HNO := Lib.hid hno
        clear hno
        go_wp2
        go_ret
        rw [HNO.out]
        exact ⟨rfl, rfl⟩
      · have hno : rightB L = false := not_right HX.out (by simp [inR]; omega)
        have HNO := Lib.hid hno
        have t : ¬ x < 0 := by omega
        clear hno
        go_wp2
        go_ret
        rw [HNO.out]
        exact ⟨rfl, rfl⟩
      · subst h
        have h1 := take_snoc HX.out
        have e1 : s = rsum (L.take (k + 1)) := by rw [h1, rsum_snoc, ← Hs.out, kr_zero]; rfl
        have e2 : m = many (L.take (k + 1)) := by rw [h1, many_snoc, ← Hm.out]; rfl
        have e3 : o = ones (L.take (k + 1)) := by rw [h1, ones_snoc, ← Ho.out]; rfl
        have e4 : (L.take (k + 1)).all inR = true := by rw [h1, all_snoc, Ha.out]; rfl
        have E := Lib.hid (And.intro e1 (And.intro e2 (And.intro e3 e4)))
        clear h1 e1 e2 e3 e4
        go_wp2
        go_round
        case rel => exact ⟨k + 1, s, m, o, by omega, by go_num, rfl, rfl, rfl, by omega, by omega, by omega, E.out.1, E.out.2.1, E.out.2.2.1, E.out.2.2.2⟩
        case measure => simp [intOf] <;> omega
      · subst h
        have h1 := take_snoc HX.out
        have e1 : s + 16384 = rsum (L.take (k + 1)) := by rw [h1, rsum_snoc, ← Hs.out]; rfl
        have e2 : m + 1 = many (L.take (k + 1)) := by rw [h1, many_snoc, ← Hm.out]; rfl
        have e3 : o + 1 = ones (L.take (k + 1)) := by rw [h1, ones_snoc, ← Ho.out]; rfl
        have e4 : (L.take (k + 1)).all inR = true := by rw [h1, all_snoc, Ha.out]; rfl
        have E := Lib.hid (And.intro e1 (And.intro e2 (And.intro e3 e4)))
        clear h1 e1 e2 e3 e4
        go_wp2
        go_round
        case rel => exact ⟨k + 1, s + 16384, m + 1, o + 1, by omega, by go_num, by go_num, by go_num, by go_num, by omega, by omega, by omega, E.out.1, E.out.2.1, E.out.2.2.1, E.out.2.2.2⟩
        case measure => simp [intOf] <;> omega
      · have t1 : (x == 1) = false := by simp; omega
        have h1 := take_snoc HX.out
        obtain ⟨q, hq⟩ : ∃ q, q = kr x := ⟨_, rfl⟩
        have hq1 : q ≤ 32768 := by rw [hq]; exact kr_le x
        have e1 : s + q = rsum (L.take (k + 1)) := by rw [h1, rsum_snoc, ← Hs.out, hq]
        have e2 : m + 1 = many (L.take (k + 1)) := by rw [h1, many_snoc, ← Hm.out, if_pos (by omega)]
        have e3 : o = ones (L.take (k + 1)) := by rw [h1, ones_snoc, ← Ho.out, if_neg (by omega), Nat.add_zero]
        have e4 : (L.take (k + 1)).all inR = true := by rw [h1, all_snoc, Ha.out]; simp [inR]; omega
        have E := Lib.hid (And.intro e1 (And.intro e2 (And.intro e3 e4)))
        have hsh : (32768 : Int) / 2 ^ x.toNat = (q : Int) := by
          rw [hq, kr, if_pos (by omega)]
          simp
        clear h1 e1 e2 e3 e4 hq
        go_wp2
        go_round
        case rel => exact ⟨k + 1, s + q, m + 1, o, by omega, by go_num, by go_num, by go_num, rfl, by omega, by omega, by omega, E.out.1, E.out.2.1, E.out.2.2.1, E.out.2.2.2⟩
        case measure => simp [intOf] <;> omega
    · obtain rfl : k = n := by omega
      have hres : rightB L = (s == 32768 || (m == 1 && o == 1)) := by
        have e : L.take k = L := List.take_of_length_le (by have := HLN.out; omega)
        have h := Ha.out
        rw [e] at h
        unfold rightB
        rw [h, Hs.out, Hm.out, Ho.out, e]
        rfl
      have HRES := Lib.hid hres
      clear hres
      have fin : ∀ (v : Bool), (s == 32768 || (m == 1 && o == 1)) = v → rightB L = v := fun v h => HRES.out.trans h
      have FIN := Lib.hid fin
      clear fin
      by_cases c1 : s = 32768
      · have t1 : ((s : Int) == 32768) = true := by simp; omega
        have hv := FIN.out true (by simp [c1])
        have HV := Lib.hid hv
        clear c1 hv
        go_wp2
        go_ret
        rw [HV.out]
        exact ⟨rfl, rfl⟩
      · have t1 : ((s : Int) == 32768) = false := by simp; omega
        by_cases c2 : m = 1
        · have t2 : ((m : Int) == 1) = true := by simp; omega
          by_cases c3 : o = 1
          · have t3 : ((o : Int) == 1) = true := by simp; omega
            have hv := FIN.out true (by simp [c2, c3])
            have HV := Lib.hid hv
            clear c1 c2 c3 hv
            go_wp2
            go_ret
            rw [HV.out]
            exact ⟨rfl, rfl⟩
          · have t3 : ((o : Int) == 1) = false := by simp; omega
            have hv := FIN.out false (by simp [c1, c3])
            have HV := Lib.hid hv
            clear c1 c2 c3 hv
            go_wp2
            go_ret
            rw [HV.out]
            exact ⟨rfl, rfl⟩
        · have t2 : ((m : Int) == 1) = false := by simp; omega
          have hv := FIN.out false (by simp [c1, c2])
          have HV := Lib.hid hv
          clear c1 c2 hv
          go_wp2
          go_ret
          rw [HV.out]
          exact ⟨rfl, rfl⟩
end Go.Proofs.YtjghcacepneipaaDoor
