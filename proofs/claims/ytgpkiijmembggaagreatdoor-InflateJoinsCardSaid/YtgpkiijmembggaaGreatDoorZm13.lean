/-
  What layer 10's laws want of the program: its contracts; awake out of them.
  What layer 7 says of symbols: a symbol as a value, what a number tells, two slices of numbers; max, min.
  Contracts of layer 7's program: the tables, within, the closures, the library's search, symbol.
  Layer 8's reference: Press (written by gen_run.py).
  Layer 8's reference: Press (written by gen_item.py).
  A whole struct is stored into a variable of its own.
-/
import Derived.Test.YtgpkiijmembggaaGreatDoorDeK
import Derived.Test.YtgpkiijmembggaaGreatDoorZm12
import Derived.Test.YtgpkiijmembggaaGreatDoorZm06
import Derived.Laws.StructEq
import Derived.StillTailTactics
import Derived.Test.YtgpkiijmembggaaGreatDoorZm03
import Derived.Test.YtgpkiijmembggaaGreatDoorZm04
import Derived.Test.YtgpkiijmembggaaGreatDoorZm05
import Derived.Test.YtgpkiijmembggaaGreatDoorZm00
import Derived.Deep.DrawnRows
import Derived.Deep.QuietTactic
import Derived.BigQuiet
namespace Go.Proofs.YtgpkiijmembggaaGreatDoor
open Go.RowKit BitsM Mem Go.Lib
attribute [local go_sem ↓] Go.wp_at_zero Go.wp_at_succ
set_option linter.unusedVariables false
set_option maxRecDepth 100000

/-- bytes that are opened, and how many told them; or the error -/
def Opens (w : World) (r : Except Nat (List UInt8 × Nat)) (e : Ending) (w' : World) : Prop :=
  match r with
  | .ok (X, n) => ∃ A c, e = .returned (.tuple #[.slice A X.length c, .int .i64 (n : Int), .int .i64 0]) ∧ Own w' w.heap.size A c X ∧ Fr (fun _ => False) w w'
  | .error k => ∃ A c, e = .returned (.tuple #[.slice A 0 c, .int .i64 0, .int .i64 (k : Int)]) ∧ Fr (fun _ => False) w w'
theorem Opens.any {w : World} {r : Except Nat (List UInt8 × Nat)} {e : Ending} {w' : World} (h : Opens w r e w') : ∃ (A : Option Addr) (m c n k : Nat), e = .returned (.tuple #[.slice A m c, .int .i64 (n : Int), .int .i64 (k : Int)]) ∧ Fr (fun _ => False) w w' := by
  unfold Opens at h
  split at h
  · rename_i X n
    obtain ⟨A, c, he, _, hf⟩ := h
    exact ⟨A, X.length, c, n, 0, he, hf⟩
  · rename_i k
    obtain ⟨A, c, he, hf⟩ := h
    exact ⟨A, 0, c, 0, k, he, hf⟩
/-- the program's contracts -/
structure InfC (Gl : World → Prop) : Prop where
  d : DeflC Gl
  open_ : ∀ (A : Option Addr) (n c : Nat) (most : Int) (B : List UInt8) (w : World), Gl w → Rd w A n (B.map bytec) → n ≤ c → c ≤ maxLen → n ≤ 100000 → -9223372036854775808 ≤ most → most ≤ 100000 → Calls Tryz.prog 12 #[.slice A n c, .int .i64 most] w (Opens w (InM.openP B most))
theorem press_way (B : List UInt8) : DeM.pressB B = DeM.storedB B ∨ DeM.pressB B = pack (DeM.fixedBits B) ∨ DeM.pressB B = pack (DeM.dynBits B) := (DeM.press_is B).1
theorem press_pos (B : List UInt8) : 0 < (DeM.pressB B).length := by
  rcases press_way B with h | h | h
  · rw [h]
    unfold DeM.storedB
    cases B.length with
    | zero => rw [DeM.storedF, List.length_append]; exact Nat.lt_of_lt_of_le (show 0 < 5 by omega) (Nat.le_add_right 5 _)
    | succ k =>
      rw [DeM.storedF]
      split
      · rw [List.length_append, List.length_append]
        show 0 < 5 + _ + _
        omega
      · rw [List.length_append]
        show 0 < 5 + _
        omega
  · rw [h, pack_length]
    unfold DeM.fixedBits
    rw [List.length_append]
    show 0 < (3 + _ + 7) / 8
    omega
  · rw [h, pack_length]
    unfold DeM.dynBits
    rw [List.length_append, List.length_append]
    show 0 < (3 + _ + _ + 7) / 8
    omega
theorem press_at_most (B : List UInt8) (h : B.length ≤ 65535) : (DeM.pressB B).length ≤ B.length + 5 := by
  have h1 := (DeM.press_is B).2.1
  rw [storedB_len B h] at h1
  exact h1
theorem open_30 : InM.openP [3, 0] 0 = .ok ([], 2) := by
  have h := InM.open_all [] (DeM.pressB []) [] [] (fun _ h => by cases h) (by simp) (press_way []) 0 (by simp)
  rw [press_nil9] at h
  exact h
def Awake10 (Gl : World → Prop) : Prop := ∀ w, Gl w → Calls Tryz.prog 7 #[] w fun e w' => e = .returned (.bool true) ∧ Fr (fun _ => False) w w'
set_option maxHeartbeats 1600000 in
theorem awake10_any {Gl : World → Prop} (K : InfC Gl) : Awake10 Gl := by
  intro w hG
  obtain ⟨w1, hw1⟩ : ∃ w1, w1 = w.alloc (.cells #[.int .u8 3, .int .u8 0] 5) := ⟨_, rfl⟩
  obtain ⟨p, hp⟩ : ∃ p, p = w.heap.size := ⟨_, rfl⟩
  have hf1 : Fr (fun _ => False) w w1 := by rw [hw1]; exact (Fr.refl _ w).alloc _
  have hr1 : Rd w1 (some ⟨p, 0, none⟩) 2 (([3, 0] : List UInt8).map bytec) := by rw [hw1]; exact Rd.cells hp [.int .u8 3, .int .u8 0] _
  have h1 := K.open_ (some ⟨p, 0, none⟩) 2 2 0 [3, 0] w1 (K.d.fr0 hG hf1) hr1 (by omega) (by unfold maxLen; omega) (by omega) (by omega) (by omega)
  rw [open_30] at h1
  have H1 : Hid (Calls Tryz.prog 12 #[.slice (some ⟨p, 0, none⟩) 2 2, .int .i64 0] w1 fun e w' => ∃ A c, e = .returned (.tuple #[.slice A 0 c, .int .i64 2, .int .i64 0]) ∧ Fr (fun _ => False) w1 w') := Lib.hid (h1.mono fun e w' ⟨A, c, he, _, hf⟩ => ⟨A, c, he, hf⟩)
  have HF1 := Lib.hid hf1
  clear h1 hr1 hf1
  go_enter Tryz.func7, Tryz.ntmps7
  go_wp2_with fail
  rw [← hw1, ← hp]
  clear hw1 hp
  refine H1.out.mono ?_
  rintro e w2 ⟨A2, c2, rfl, hf2⟩
  have HF2 := Lib.hid (HF1.out.trans hf2 (fun _ _ h => h))
  clear hf2 H1
  go_wp2_with fail
  go_ret
  exact ⟨rfl, HF2.out⟩
end Go.Proofs.YtgpkiijmembggaaGreatDoor
namespace Go.Proofs.YtgpkiijmembggaaGreatDoor
open Go.RowKit SyM LzM Mem Go.Lib
attribute [local go_sem ↓] Go.wp_at_zero Go.wp_at_succ
set_option linter.unusedVariables false

/-- a symbol, as a value -/
def symv (s b x : Nat) : Value := .agg #[.int .i64 (s : Int), .int .i64 (b : Int), .int .u64 (x : Int)]
theorem symv_one (s b x : Nat) : (#[Value.int .i64 (s : Int), .int .i64 (b : Int), .int .u64 (x : Int)] : Array Value).all (·.oneCell') = true := by simp [Value.oneCell']
theorem symv_equal (s b x s' b' x' : Nat) (w : World) : (Op.equalIn 10000 91 (symv s b x) (symv s' b' x')).run Tryz.prog w = .ok (decide (s = s' ∧ b = b' ∧ x = x')) w := by
  unfold symv
  have h := run_equalIn_agg (P := Tryz.prog) w 9999 91 #[.int .i64 (s : Int), .int .i64 (b : Int), .int .u64 (x : Int)] #[.int .i64 (s' : Int), .int .i64 (b' : Int), .int .u64 (x' : Int)] (by unfold Program.fieldsOf; rw [Tryz.underlying91]) (by kernel_rfl)
  rw [h]
  clear h
  unfold Program.fieldsOf
  rw [Tryz.underlying91]
  go_simp
  by_cases h1 : s = s'
  · by_cases h2 : b = b'
    · by_cases h3 : x = x'
      · simp [h1, h2, h3]
      · have h4 : ¬ (x : Int) = (x' : Int) := by omega
        simp [h1, h2, h3, h4]
    · have h4 : ¬ (b : Int) = (b' : Int) := by omega
      simp [h1, h2, h4]
  · have h4 : ¬ (s : Int) = (s' : Int) := by omega
    simp [h1, h4]
theorem symv_eql (s b x s' b' x' : Nat) : (∀ (p q : Operand) (w : World), (eqGuard .eql 91 p q (symv s b x) (symv s' b' x')).run Tryz.prog w = .ok () w) ∧ (∀ w : World, (binOp .eql 91 (symv s b x) (symv s' b' x')).run Tryz.prog w = .ok (.bool (decide (s = s' ∧ b = b' ∧ x = x'))) w) := by
  refine ⟨fun p q w => run_eqGuard_agg w .eql _ p q _ _ (by kernel_rfl), fun w => ?_⟩
  have h := symv_equal s b x s' b' x' w
  unfold symv at h ⊢
  rw [run_eql_struct, h]
  rfl

def inI (n : Int) : Prop := -9223372036854775808 ≤ n ∧ n ≤ 9223372036854775807
def lenOfV (s : Int) : Nat × Nat × Bool := if 257 ≤ s ∧ s ≤ 285 then (least lens (s - 257).toNat, wid lens (s - 257).toNat, true) else (0, 0, false)
def distOfV (s : Int) : Nat × Nat × Bool := if 0 ≤ s ∧ s < 30 then (least dists s.toNat, wid dists s.toNat, true) else (0, 0, false)
def trip (p : Nat × Nat × Bool) : Value := .tuple #[.int .i64 (p.1 : Int), .int .i64 (p.2.1 : Int), .bool p.2.2]
/-- a call answers two slices of numbers -/
def Two (w : World) (X Y : List Nat) (e : Ending) (w' : World) : Prop :=
  ∃ Aa ca Ab cb, e = .returned (.tuple #[.slice Aa X.length ca, .slice Ab Y.length cb]) ∧ Rd w' Aa X.length (X.map natc) ∧ Rd w' Ab Y.length (Y.map natc) ∧ Fr (fun _ => False) w w'
theorem run_max7 (n k m : Int) (h : m = max n k) (w : World) : (Builtin.max_ #[3, 3] 3 #[.int .i64 n, .int .i64 k]).run Tryz.prog w = .ok (.int .i64 m) w := by
  rw [h]
  go_simp
  split <;> omega
theorem run_min7 (n k m : Int) (h : m = min n k) (w : World) : (Builtin.min_ #[3, 3] 3 #[.int .i64 n, .int .i64 k]).run Tryz.prog w = .ok (.int .i64 m) w := by
  rw [h]
  go_simp
  split <;> omega

theorem run_cv (e : Nat) (he : e ≤ 32768) (w : World) : (convert 3 47 (.int .i64 (e : Int))).run Tryz.prog w = .ok (.int .u64 (e : Int)) w := by
  go_simp
  unfold IntKind.wrap
  simp [IntKind.bits, IntKind.signed]
  omega
end Go.Proofs.YtgpkiijmembggaaGreatDoor
namespace Go.Proofs.YtgpkiijmembggaaGreatDoor
open Go.RowKit SyM LzM Mem Go.Lib
attribute [local go_sem ↓] Go.wp_at_zero Go.wp_at_succ
set_option linter.unusedVariables false

/-- a table of pairs lies in a block -/
def TabG (w : World) (g : Nat) (R : List (Nat × Nat)) : Prop := ∀ i, i < R.length → w.cell? ⟨g, i * 2, none⟩ = some (.int .i64 (least R i : Int)) ∧ w.cell? ⟨g, i * 2 + 1, none⟩ = some (.int .i64 (wid R i : Int))
/-- the program's tables lie in their variables -/
def Gl (w : World) : Prop := TabG w 0 lens ∧ TabG w 1 dists
/-- the tables lie below this block -/
def top7 : Nat := max 0 1 + 1
theorem TabG.fr {S : Nat → Prop} {w w' : World} {g : Nat} {R : List (Nat × Nat)} (h : TabG w g R) (hf : Fr S w w') (hg : ¬ S g) : TabG w' g R := fun i hi => ⟨hf.cell (h i hi).1 hg, hf.cell (h i hi).2 hg⟩
theorem Gl.fr0 {w w' : World} (h : Gl w) (hf : Fr (fun _ => False) w w') : Gl w' := ⟨h.1.fr hf (fun h => h), h.2.fr hf (fun h => h)⟩
theorem Gl.size {w : World} (h : Gl w) : top7 ≤ w.heap.size := by
  have h1 : (⟨0, 0 * 2, none⟩ : Addr).block < w.heap.size := World.block_lt_of_cell? w ⟨0, 0 * 2, none⟩ (h.1 0 (by decide)).1
  have h2 : (⟨1, 0 * 2, none⟩ : Addr).block < w.heap.size := World.block_lt_of_cell? w ⟨1, 0 * 2, none⟩ (h.2 0 (by decide)).1
  simp at h1 h2
  unfold top7
  omega

theorem clamp_any (n lo hi : Int) (w : World) : Calls Tryz.prog 64 #[.int .i64 n, .int .i64 lo, .int .i64 hi] w fun e w' => e = .returned (.int .i64 (clampI n lo hi)) ∧ w = w' := by
  obtain ⟨m, hm⟩ : ∃ m, m = max n lo := ⟨_, rfl⟩
  obtain ⟨c, hc⟩ : ∃ c, c = min m hi := ⟨_, rfl⟩
  have hcl : clampI n lo hi = c := by unfold clampI; omega
  rw [hcl]
  have q1 := run_max7 n lo m hm
  have q2 := run_min7 m hi c hc
  clear hm hc hcl
  go_enter Tryz.func64, Tryz.ntmps64
  go_wp2_with fail
  go_ret
  exact ⟨rfl, rfl⟩

set_option maxRecDepth 100000 in
theorem len1_any (i p n : Nat) (w : World) (hG : TabG w 0 lens) (hi : i < 29) (hp : w.cell? ⟨p, 0, none⟩ = some (.int .i64 (n : Int))) :
    Calls Tryz.prog 66 #[.int .i64 (i : Int), .pointer (some ⟨p, 0, none⟩)] w fun e w' => e = .returned (.bool (decide (n < least lens i))) ∧ Fr (fun _ => False) w w' := by
  obtain ⟨m, hm⟩ : ∃ m, m = least lens i := ⟨_, rfl⟩
  have h0 := (hG i hi).1
  rw [← hm] at h0
  rw [← hm]
  have hii : (i : Int) < 29 := by omega
  clear hG hm
  go_enter Tryz.func66, Tryz.ntmps66
  go_upto_region 1 with fail
  go_still (by kernel_rfl)
  go_wp2_with fail
  go_ret
  exact ⟨rfl, (Fr.refl _ w).drew⟩

set_option maxRecDepth 100000 in
theorem dist1_any (i p n : Nat) (w : World) (hG : TabG w 1 dists) (hi : i < 30) (hp : w.cell? ⟨p, 0, none⟩ = some (.int .i64 (n : Int))) :
    Calls Tryz.prog 68 #[.int .i64 (i : Int), .pointer (some ⟨p, 0, none⟩)] w fun e w' => e = .returned (.bool (decide (n < least dists i))) ∧ Fr (fun _ => False) w w' := by
  obtain ⟨m, hm⟩ : ∃ m, m = least dists i := ⟨_, rfl⟩
  have h0 := (hG i hi).1
  rw [← hm] at h0
  rw [← hm]
  have hii : (i : Int) < 30 := by omega
  clear hG hm
  go_enter Tryz.func68, Tryz.ntmps68
  go_upto_region 1 with fail
  go_still (by kernel_rfl)
  go_wp2_with fail
  go_ret
  exact ⟨rfl, (Fr.refl _ w).drew⟩

end Go.Proofs.YtgpkiijmembggaaGreatDoor
namespace Go.Proofs.YtgpkiijmembggaaGreatDoor
open Go.RowKit CoM Mem Go.Lib
attribute [local go_sem ↓] Go.wp_at_zero Go.wp_at_succ
set_option linter.unusedVariables false

/-- a cell of a slice of numbers -/
theorem nat_cell {w : World} {A : Option Addr} {n : Nat} {L : List Nat} (h : Rd w A n (L.map natc)) {k : Nat} (hk : k < n) : ∃ ad, A = some ad ∧ w.cell? (ad.add k) = some (.int .i64 ((L[k]! : Nat) : Int)) := by
  have hl : L.length = n := by simpa using h.1
  obtain ⟨ad, u, e, h1, h2⟩ := h.at_ hk
  rw [List.getElem?_map, List.getElem?_eq_getElem (by omega)] at h1
  refine ⟨ad, e, ?_⟩
  rw [h2, getElem!_pos L k (by omega), ← h1]
  rfl

end Go.Proofs.YtgpkiijmembggaaGreatDoor
namespace Go.Proofs.YtgpkiijmembggaaGreatDoor
open Go.RowKit CoM Mem Go.Lib
attribute [local go_sem ↓] Go.wp_at_zero Go.wp_at_succ
set_option linter.unusedVariables false

def itc (t : It) : List Value := [.int .i64 (t.s : Int), .int .i64 (t.b : Int), .int .u64 (t.x : Int)]
/-- a slice of one's own holds these items -/
def OwnIt (w : World) (base : Nat) (e : TypeId) (A : Option Addr) (c : Nat) (T : List It) : Prop := w.ownsRow base e 3 (.slice A T.length c) T.length (T.flatMap itc)
theorem OwnIt.fr {w w' : World} {base c : Nat} {e : TypeId} {A : Option Addr} {T : List It} (h : OwnIt w base e A c T) (hf : Fr (fun _ => False) w w') : OwnIt w' base e A c T := hf.own h (fun _ _ h => h)
theorem it_one (a b x : Int) : ∀ v ∈ [Value.int .i64 a, .int .i64 b, .int .u64 x], v.oneCell' = true := by
  intro v hv
  simp at hv
  rcases hv with rfl | rfl | rfl <;> rfl
theorem flatI (O : List It) (t : It) : (O ++ [t]).flatMap itc = O.flatMap itc ++ itc t := by rw [List.flatMap_append]; simp
theorem cells_new8 {w : World} {k : Nat} (hk : k = w.heap.size) (xs : List Value) (t : TypeId) : ∀ j x, xs[j]? = some x → (w.alloc (.cells xs.toArray t)).cell? ((⟨k, 0, none⟩ : Addr).add j) = some x := by
  subst hk
  intro j x hx
  have hl : 0 < xs.length := by have := (List.getElem?_eq_some_iff.1 hx).1; omega
  obtain ⟨ad, e, h⟩ := (Rd.cells rfl xs t).2 hl
  injection e with e
  subst e
  exact h j x hx
theorem run_min8 (n k m : Int) (h : m = min n k) (w : World) : (Builtin.min_ #[3, 3] 3 #[.int .i64 n, .int .i64 k]).run Tryz.prog w = .ok (.int .i64 m) w := by
  rw [h]
  go_simp
  split <;> omega
theorem conv_u64 (e : Nat) (he : e ≤ 1000000) (w : World) : (convert 3 47 (.int .i64 (e : Int))).run Tryz.prog w = .ok (.int .u64 (e : Int)) w := by
  go_simp
  unfold IntKind.wrap
  simp [IntKind.bits, IntKind.signed]
  omega

end Go.Proofs.YtgpkiijmembggaaGreatDoor
namespace Go.Proofs.YtgpkiijmembggaaGreatDoor
open Go.RowKit Mem Go.Lib
set_option linter.unusedVariables false

theorem store_st {P : Program} {ty : TypeId} {n : Nat} (hs : (P.info? ty).map (·.size) = some n) {ops : Array Oper} {rest : List Oper} {op : Oper} {a : Act} {w : World} {Q : Exit → Act → World → Prop} (hgd : op.guard = none) (x y : Operand) (ho : op.op = .store ty x y)
    (g : Nat) (hx : a.eval x = .pointer (some ⟨g, 0, none⟩)) (L : List Value) (hy : a.eval y = .agg L.toArray) (old : Array Value) (t : TypeId) (hb : w.heap[g]? = some (.cells old t (0, 0))) (hn : L.length = n) (ho2 : old.size = n) (h1 : L.toArray.all (·.oneCell') = true)
    (h : ∀ w', Row w' g t L → Fr (fun b => b = g) w w' → wpList P ops Q rest (a.put op.dst undef) w') : wpList P ops Q (op :: rest) a w := by
  refine wpList_plain hgd fun K hK => ?_
  unfold Oper.wp execOp
  simp only [ho, hx, hy, Instr.storeAt, Instr.sureAddr, Sem.run_bind, Sem.run_pure, Result.andThen_ok, run_storeVar_row w g t ty old L.toArray hb (by rw [hs]; simp [hn]) (by rw [ho2]; simp [hn]) h1]
  exact hK _ _ (h _ (setRow_heap w g old L.toArray t (0, 0) hb) ⟨rfl, rfl, rfl, by simp [World.setRow], fun b _ hs => setRow_other w g b _ hs⟩)
end Go.Proofs.YtgpkiijmembggaaGreatDoor
