/-
  What layer 7's laws want of the program: its contracts, over a condition of the world that calls keep (its tables); awake out of them.
-/
import Derived.Test.YtamcgenjlndfjaaDoorSyD
import Derived.Laws.StructEq
import Derived.StillTailTactics
namespace Go.Proofs.YtamcgenjlndfjaaDoor
open Go.RowKit SyM LzM Mem Go.Lib
attribute [local go_sem ↓] Go.wp_at_zero Go.wp_at_succ
set_option linter.unusedVariables false

/-- a symbol, as a value -/
def symv (s b x : Nat) : Value := .agg #[.int .i64 (s : Int), .int .i64 (b : Int), .int .u64 (x : Int)]
theorem symv_one (s b x : Nat) : (#[Value.int .i64 (s : Int), .int .i64 (b : Int), .int .u64 (x : Int)] : Array Value).all (·.oneCell') = true := by simp [Value.oneCell']
theorem symv_equal (s b x s' b' x' : Nat) (w : World) : (Op.equalIn 10000 29 (symv s b x) (symv s' b' x')).run Tryd.prog w = .ok (decide (s = s' ∧ b = b' ∧ x = x')) w := by
  unfold symv
  have h := run_equalIn_agg (P := Tryd.prog) w 9999 29 #[.int .i64 (s : Int), .int .i64 (b : Int), .int .u64 (x : Int)] #[.int .i64 (s' : Int), .int .i64 (b' : Int), .int .u64 (x' : Int)] (by unfold Program.fieldsOf; rw [Tryd.underlying29]) (by kernel_rfl)
  rw [h]
  clear h
  unfold Program.fieldsOf
  rw [Tryd.underlying29]
  go_simp
  by_cases h1 : s = s'
  · by_cases h2 : b = b'
    · by_cases h3 : x = x'
      · simp [h1, h2, h3]
      · have h4 : ¬ (x : Int) = (x' : Int) := by omega
        simp [h1, h2, h3, h4]
    · have h4 : ¬ (b : Int) = (b' : Int) := by omega
      simp [h1, h2, h4]
  · have h4 : ¬ (s : Int) = (s' : Int) := by omega
    simp [h1, h4]
theorem symv_eql (s b x s' b' x' : Nat) : (∀ (p q : Operand) (w : World), (eqGuard .eql 29 p q (symv s b x) (symv s' b' x')).run Tryd.prog w = .ok () w) ∧ (∀ w : World, (binOp .eql 29 (symv s b x) (symv s' b' x')).run Tryd.prog w = .ok (.bool (decide (s = s' ∧ b = b' ∧ x = x'))) w) := by
  refine ⟨fun p q w => run_eqGuard_agg w .eql _ p q _ _ (by kernel_rfl), fun w => ?_⟩
  have h := symv_equal s b x s' b' x' w
  unfold symv at h ⊢
  rw [run_eql_struct, h]
  rfl

def inI (n : Int) : Prop := -9223372036854775808 ≤ n ∧ n ≤ 9223372036854775807
def lenOfV (s : Int) : Nat × Nat × Bool := if 257 ≤ s ∧ s ≤ 285 then (least lens (s - 257).toNat, wid lens (s - 257).toNat, true) else (0, 0, false)
def distOfV (s : Int) : Nat × Nat × Bool := if 0 ≤ s ∧ s < 30 then (least dists s.toNat, wid dists s.toNat, true) else (0, 0, false)
def trip (p : Nat × Nat × Bool) : Value := .tuple #[.int .i64 (p.1 : Int), .int .i64 (p.2.1 : Int), .bool p.2.2]
/-- a call answers two slices of numbers -/
def Two (w : World) (X Y : List Nat) (e : Ending) (w' : World) : Prop :=
  ∃ Aa ca Ab cb, e = .returned (.tuple #[.slice Aa X.length ca, .slice Ab Y.length cb]) ∧ Rd w' Aa X.length (X.map natc) ∧ Rd w' Ab Y.length (Y.map natc) ∧ Fr (fun _ => False) w w'
/-- the program's contracts -/
structure SymsC (Gl : World → Prop) : Prop where
  fr : ∀ {w w' : World}, Gl w → Fr (fun _ => False) w w' → Gl w'
  literal : ∀ (b : UInt8) (w : World), Gl w → Calls Tryd.prog 15 #[.int .u8 (b.toNat : Int)] w fun e w' => e = .returned (symv b.toNat 0 0) ∧ Fr (fun _ => False) w w'
  length : ∀ (n : Int) (w : World), Gl w → inI n → Calls Tryd.prog 13 #[.int .i64 n] w fun e w' => e = .returned (symv (257 + lenS n) (wid lens (lenS n)) (lenX n)) ∧ Fr (fun _ => False) w w'
  distance : ∀ (n : Int) (w : World), Gl w → inI n → Calls Tryd.prog 14 #[.int .i64 n] w fun e w' => e = .returned (symv (distS n) (wid dists (distS n)) (distX n)) ∧ Fr (fun _ => False) w w'
  lengthOf : ∀ (s : Int) (w : World), Gl w → inI s → Calls Tryd.prog 16 #[.int .i64 s] w fun e w' => e = .returned (trip (lenOfV s)) ∧ Fr (fun _ => False) w w'
  distanceOf : ∀ (s : Int) (w : World), Gl w → inI s → Calls Tryd.prog 17 #[.int .i64 s] w fun e w' => e = .returned (trip (distOfV s)) ∧ Fr (fun _ => False) w w'
  weights : ∀ (A : Option Addr) (n c : Nat) (T : List Tok) (w : World), Gl w → Toks w A n T → n ≤ 1000 → (∀ t ∈ T, Fits t) → Calls Tryd.prog 19 #[.slice A n c] w (Two w (weigh T SyM.start).1 (weigh T SyM.start).2)
  fixed : ∀ (w : World), Gl w → Calls Tryd.prog 21 #[] w (Two w fixA fixB)

/-- awake answers true -/
def Awake7 (Gl : World → Prop) : Prop := ∀ w, Gl w → Calls Tryd.prog 9 #[] w fun e w' => e = .returned (.bool true) ∧ Fr (fun _ => False) w w'
set_option maxRecDepth 100000 in
set_option maxHeartbeats 1600000 in
theorem awake7_any {Gl : World → Prop} (K : SymsC Gl) : Awake7 Gl := by
  intro w hG
  have hl : ∀ w, Gl w → Calls Tryd.prog 13 #[.int .i64 12] w fun e w' => e = .returned (.agg #[.int .i64 265, .int .i64 1, .int .u64 1]) ∧ Fr (fun _ => False) w w' := fun w h => by
    have h2 := K.length 12 w h ⟨by omega, by omega⟩
    rw [show lenS 12 = 8 by decide +kernel, show lenX 12 = 1 by decide +kernel] at h2
    exact h2
  have hd : ∀ w, Gl w → Calls Tryd.prog 14 #[.int .i64 32768] w fun e w' => e = .returned (.agg #[.int .i64 29, .int .i64 13, .int .u64 8191]) ∧ Fr (fun _ => False) w w' := fun w h => by
    have h2 := K.distance 32768 w h ⟨by omega, by omega⟩
    rw [show distS 32768 = 29 by decide +kernel, show distX 32768 = 8191 by decide +kernel] at h2
    exact h2
  have q1 : ∀ (p q : Operand) (w : World), (eqGuard .eql 29 p q (.agg #[.int .i64 265, .int .i64 1, .int .u64 1]) (.agg #[.int .i64 265, .int .i64 1, .int .u64 1])).run Tryd.prog w = .ok () w := (symv_eql 265 1 1 265 1 1).1
  have q2 : ∀ w : World, (binOp .eql 29 (.agg #[.int .i64 265, .int .i64 1, .int .u64 1]) (.agg #[.int .i64 265, .int .i64 1, .int .u64 1])).run Tryd.prog w = .ok (.bool true) w := (symv_eql 265 1 1 265 1 1).2
  have q3 : ∀ (p q : Operand) (w : World), (eqGuard .eql 29 p q (.agg #[.int .i64 29, .int .i64 13, .int .u64 8191]) (.agg #[.int .i64 29, .int .i64 13, .int .u64 8191])).run Tryd.prog w = .ok () w := (symv_eql 29 13 8191 29 13 8191).1
  have q4 : ∀ w : World, (binOp .eql 29 (.agg #[.int .i64 29, .int .i64 13, .int .u64 8191]) (.agg #[.int .i64 29, .int .i64 13, .int .u64 8191])).run Tryd.prog w = .ok (.bool true) w := (symv_eql 29 13 8191 29 13 8191).2
  have HL := Lib.hid hl
  have HD := Lib.hid hd
  have HG := Lib.hid hG
  clear hl hd hG
  go_enter Tryd.func9, Tryd.ntmps9
  go_wp2_with fail
  refine (HL.out w HG.out).mono ?_
  rintro e w2 ⟨rfl, hf2⟩
  have HF2 := Lib.hid hf2
  have HG2 := Lib.hid (K.fr HG.out hf2)
  clear hf2
  go_wp2_with fail
  refine (HD.out w2 HG2.out).mono ?_
  rintro e w3 ⟨rfl, hf3⟩
  have HF3 := Lib.hid (HF2.out.trans hf3 (fun _ _ h => h))
  clear hf3
  go_wp2_with fail
  go_ret
  exact ⟨rfl, (HF3.out.alloc _).alloc _⟩
end Go.Proofs.YtamcgenjlndfjaaDoor
