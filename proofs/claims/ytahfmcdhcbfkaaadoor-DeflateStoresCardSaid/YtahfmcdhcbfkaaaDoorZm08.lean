/-
  Layer 9: what is pressed may be told; how many bits tell tokens, and codes.
  Layer 9, plain: how long each way is.
  What layer 9's laws want of the program: its contracts; awake out of them.
  What layer 7 says of symbols: a symbol as a value, what a number tells, two slices of numbers; max, min.
-/
import Derived.Test.YtahfmcdhcbfkaaaDoorZm04
import Derived.Test.YtahfmcdhcbfkaaaDoorZm07
import Derived.Laws.StructEq
import Derived.StillTailTactics
namespace Go.Proofs.YtahfmcdhcbfkaaaDoor
open Go.RowKit BitsM Mem Go.Lib
set_option linter.unusedVariables false
set_option maxRecDepth 100000

theorem pressF_fits (B : List UInt8) : ∀ f i, ∀ t ∈ LzM.pressF B f i, Fits t := by
  intro f
  induction f with
  | zero => intro i t h; simp [LzM.pressF] at h
  | succ f ih =>
    intro i t h
    cases hp : LzM.pressF B (f + 1) i with
    | nil => rw [hp] at h; cases h
    | cons s T =>
      obtain ⟨f', hf, hi, hc⟩ := LzV.pressF_cases B (f + 1) i s T hp
      obtain rfl : f = f' := by omega
      rw [hp] at h
      rcases List.mem_cons.1 h with h | h
      · subst h
        rcases hc with ⟨e, _, _⟩ | ⟨L, D, e, h1, h2, h3, h4, h5, _⟩
        · subst e
          rfl
        · subst e
          unfold Fits LzM.rightT LzM.mat
          rw [if_neg (by simp; omega)]
          simp
          omega
      · rcases hc with ⟨_, _, e⟩ | ⟨L, D, _, _, _, _, _, _, _, _, _, e⟩
        · rw [e] at h; exact ih _ t h
        · rw [e] at h; exact ih _ t h
theorem press_fits (B : List UInt8) : ∀ t ∈ LzM.press B, Fits t := pressF_fits B _ _
theorem tokBits_len (xs a ys b : List Nat) (t : LzM.Tok) : (DeM.tokBits xs a ys b t).length ≤ 160 := by
  have h1 := SyM.lens_wid (SyM.lenS t.l)
  have h2 := SyM.dists_wid (SyM.distS t.d)
  unfold DeM.tokBits DeM.codeBits
  split <;> simp only [List.length_append, List.length_reverse, low_length] <;> omega
theorem toksBits_len (a b : List Nat) (T : List LzM.Tok) : (DeM.toksBits a b T).length ≤ 160 * T.length + 64 := by
  have h := CoM.flat_len_le (DeM.tokBits (HuffM.codesL (CoM.ints a)) a (HuffM.codesL (CoM.ints b)) b) 160 T (fun t _ => tokBits_len _ _ _ _ t)
  unfold DeM.toksBits
  rw [List.length_append]
  unfold DeM.codeBits
  rw [List.length_reverse, low_length]
  omega
theorem weigh_le : ∀ (T : List LzM.Tok) (p : List Nat × List Nat) (N : Nat), (∀ x ∈ p.1, x ≤ N) → (∀ x ∈ p.2, x ≤ N) → (∀ x ∈ (SyM.weigh T p).1, x ≤ N + T.length) ∧ ∀ x ∈ (SyM.weigh T p).2, x ≤ N + T.length
  | [], p, N, h1, h2 => ⟨h1, h2⟩
  | t :: T, p, N, h1, h2 => by
    rw [List.length_cons, show N + (T.length + 1) = (N + 1) + T.length by omega]
    have hm : ∀ x ∈ p.2, x ≤ N + 1 := fun x hx => Nat.le_succ_of_le (h2 x hx)
    unfold SyM.weigh
    split
    · exact weigh_le T _ (N + 1) (bump_le h1).1 hm
    · exact weigh_le T _ (N + 1) (bump_le h1).1 (bump_le h2).1
theorem start_le : (∀ x ∈ SyM.start.1, x ≤ 1) ∧ ∀ x ∈ SyM.start.2, x ≤ 1 := by decide +kernel
theorem start_len : SyM.start.1.length = 286 ∧ SyM.start.2.length = 30 := by decide +kernel
/-- the lengths of a dynamic block's codes -/
theorem dyn_is (T : List LzM.Tok) : (DeM.dynX T).length = 286 ∧ (DeM.dynY T).length = 30 ∧ (∀ x ∈ DeM.dynX T, x ≤ 15) ∧ (∀ x ∈ DeM.dynY T, x ≤ 15) ∧ HuffM.cnt (SyM.weigh T SyM.start).1 ≤ 2 ^ 15 ∧ HuffM.cnt (SyM.weigh T SyM.start).2 ≤ 2 ^ 15 := by
  have hl := SyM.weigh_length T SyM.start
  rw [start_len.1, start_len.2] at hl
  have h1 : HuffM.cnt (SyM.weigh T SyM.start).1 ≤ 2 ^ 15 := by
    have h : HuffM.cnt (SyM.weigh T SyM.start).1 ≤ (SyM.weigh T SyM.start).1.length := List.countP_le_length
    omega
  have h2 : HuffM.cnt (SyM.weigh T SyM.start).2 ≤ 2 ^ 15 := by
    have h : HuffM.cnt (SyM.weigh T SyM.start).2 ≤ (SyM.weigh T SyM.start).2.length := List.countP_le_length
    omega
  exact ⟨by unfold DeM.dynX; rw [HuffM.lens_len]; exact hl.1, by unfold DeM.dynY; rw [HuffM.lens_len]; exact hl.2,
    CoM.lens_most (by omega) _ _ (Nat.le_refl _) h1, CoM.lens_most (by omega) _ _ (Nat.le_refl _) h2, h1, h2⟩
/-- how many bits tell a dynamic block's codes at most -/
theorem dyn_put (T : List LzM.Tok) : (CoM.putBits (CoM.trimL (DeM.dynX T) 257) (CoM.trimL (DeM.dynY T) 1)).length ≤ 5000 := by
  obtain ⟨h1, h2, h3, h4, _⟩ := dyn_is T
  have t1 := CoM.trim_len (L := DeM.dynX T) (m := 257) (by omega)
  have t2 := CoM.trim_len (L := DeM.dynY T) (m := 1) (by omega)
  exact CoM.putBits_len (by omega) (by omega) (by omega) (CoM.trim_mem h3) (CoM.trim_mem h4)
end Go.Proofs.YtahfmcdhcbfkaaaDoor
namespace Go.Proofs.YtahfmcdhcbfkaaaDoor
open Go.RowKit BitsM Mem Go.Lib
attribute [local go_sem ↓] Go.wp_at_zero Go.wp_at_succ
set_option linter.unusedVariables false
set_option maxRecDepth 100000

theorem storedB_len (B : List UInt8) (h : B.length ≤ 65535) : (DeM.storedB B).length = B.length + 5 := by
  rw [DeM.storedB_less B h, List.length_append]
  show 5 + B.length = _
  omega
theorem fixed_len (B : List UInt8) : (DeM.fixedBits B).length ≤ 160 * B.length + 67 := by
  have h1 := toksBits_len SyM.fixA SyM.fixB (LzM.press B)
  have h2 := LzV.press_len B
  unfold DeM.fixedBits
  rw [List.length_append]
  show 3 + _ ≤ _
  omega
theorem dyn_len (B : List UInt8) : (DeM.dynBits B).length ≤ 160 * B.length + 5067 := by
  have h1 := toksBits_len (DeM.dynX (LzM.press B)) (DeM.dynY (LzM.press B)) (LzM.press B)
  have h2 := LzV.press_len B
  have h3 := dyn_put (LzM.press B)
  unfold DeM.dynBits
  rw [List.length_append, List.length_append]
  show 3 + _ + _ ≤ _
  omega
end Go.Proofs.YtahfmcdhcbfkaaaDoor
namespace Go.Proofs.YtahfmcdhcbfkaaaDoor
open Go.RowKit BitsM Mem Go.Lib
attribute [local go_sem ↓] Go.wp_at_zero Go.wp_at_succ
set_option linter.unusedVariables false
set_option maxRecDepth 100000

/-- bytes and how many bits they are -/
def GivesN (w : World) (X : List UInt8) (n : Nat) (e : Ending) (w' : World) : Prop :=
  ∃ A c, e = .returned (.tuple #[.slice A X.length c, .int .i64 (n : Int)]) ∧ Own w' w.heap.size A c X ∧ Fr (fun _ => False) w w'
/-- the program's contracts -/
structure DeflC (Gl : World → Prop) : Prop where
  fr0 : ∀ {w w' : World}, Gl w → Fr (fun _ => False) w w' → Gl w'
  stored : ∀ (A : Option Addr) (n c : Nat) (B : List UInt8) (w : World), Gl w → Rd w A n (B.map bytec) → n ≤ c → c ≤ maxLen → n ≤ 300000 → Calls Tryd.prog 10 #[.slice A n c] w (Gives w (DeM.storedB B))
  fixed : ∀ (A : Option Addr) (n c : Nat) (B : List UInt8) (w : World), Gl w → Rd w A n (B.map bytec) → n ≤ c → c ≤ maxLen → n ≤ 10000 → Calls Tryd.prog 11 #[.slice A n c] w (GivesN w (pack (DeM.fixedBits B)) (DeM.fixedBits B).length)
  dynamic : ∀ (A : Option Addr) (n c : Nat) (B : List UInt8) (w : World), Gl w → Rd w A n (B.map bytec) → n ≤ c → c ≤ maxLen → n ≤ 10000 → Calls Tryd.prog 12 #[.slice A n c] w (GivesN w (pack (DeM.dynBits B)) (DeM.dynBits B).length)
  press : ∀ (A : Option Addr) (n c : Nat) (B : List UInt8) (w : World), Gl w → Rd w A n (B.map bytec) → n ≤ c → c ≤ maxLen → n ≤ 10000 → Calls Tryd.prog 8 #[.slice A n c] w (Gives w (DeM.pressB B))
theorem stored_nil : DeM.storedB [] = [1, 0, 0, 255, 255] := by decide +kernel
theorem press_nil9 : DeM.pressB [] = [3, 0] := by decide +kernel
def Awake9 (Gl : World → Prop) : Prop := ∀ w, Gl w → Calls Tryd.prog 7 #[] w fun e w' => e = .returned (.bool true) ∧ Fr (fun _ => False) w w'
set_option maxHeartbeats 1600000 in
theorem awake9_any {Gl : World → Prop} (K : DeflC Gl) : Awake9 Gl := by
  intro w hG
  have h1 := K.stored none 0 0 [] w hG (Rd.nil w none) (by omega) (by unfold maxLen; omega) (by omega)
  rw [stored_nil] at h1
  have H1 := Lib.hid h1
  have H2 : Hid (∀ w', Fr (fun _ => False) w w' → Calls Tryd.prog 8 #[.slice none 0 0] w' (Gives w' [3, 0])) := Lib.hid (fun w' hf => by
    have h := K.press none 0 0 [] w' (K.fr0 hG hf) (Rd.nil w' none) (by omega) (by unfold maxLen; omega) (by omega)
    rw [press_nil9] at h
    exact h)
  clear h1
  go_enter Tryd.func7, Tryd.ntmps7
  go_wp2_with fail
  refine H1.out.mono ?_
  rintro e w2 ⟨A2, c2, rfl, ho2, hf2⟩
  have s2 : (convert 22 9 (.slice A2 5 c2)).run Tryd.prog w2 = .ok (.string { data := #[1, 0, 0, 255, 255] }) w2 := ho2.str
  have HF2 := Lib.hid hf2
  replace ho2 : Hid (Own w2 w.heap.size A2 c2 [1, 0, 0, 255, 255]) := Lib.hid ho2
  clear hf2 H1
  rw [show ([1, 0, 0, 255, 255] : List UInt8).length = 5 from rfl]
  go_wp2_with fail
  refine (H2.out w2 HF2.out).mono ?_
  rintro e w3 ⟨A3, c3, rfl, ho3, hf3⟩
  have s3 : (convert 22 9 (.slice A3 2 c3)).run Tryd.prog w3 = .ok (.string { data := #[3, 0] }) w3 := ho3.str
  have HF3 := Lib.hid (HF2.out.trans hf3 (fun _ _ h => h))
  rw [show ([3, 0] : List UInt8).length = 2 from rfl]
  clear hf3 H2 ho3 s2
  go_wp2_with fail
  go_ret
  exact ⟨rfl, HF3.out⟩
end Go.Proofs.YtahfmcdhcbfkaaaDoor
namespace Go.Proofs.YtahfmcdhcbfkaaaDoor
open Go.RowKit SyM LzM Mem Go.Lib
attribute [local go_sem ↓] Go.wp_at_zero Go.wp_at_succ
set_option linter.unusedVariables false

/-- a symbol, as a value -/
def symv (s b x : Nat) : Value := .agg #[.int .i64 (s : Int), .int .i64 (b : Int), .int .u64 (x : Int)]
theorem symv_one (s b x : Nat) : (#[Value.int .i64 (s : Int), .int .i64 (b : Int), .int .u64 (x : Int)] : Array Value).all (·.oneCell') = true := by simp [Value.oneCell']
theorem symv_equal (s b x s' b' x' : Nat) (w : World) : (Op.equalIn 10000 81 (symv s b x) (symv s' b' x')).run Tryd.prog w = .ok (decide (s = s' ∧ b = b' ∧ x = x')) w := by
  unfold symv
  have h := run_equalIn_agg (P := Tryd.prog) w 9999 81 #[.int .i64 (s : Int), .int .i64 (b : Int), .int .u64 (x : Int)] #[.int .i64 (s' : Int), .int .i64 (b' : Int), .int .u64 (x' : Int)] (by unfold Program.fieldsOf; rw [Tryd.underlying81]) (by kernel_rfl)
  rw [h]
  clear h
  unfold Program.fieldsOf
  rw [Tryd.underlying81]
  go_simp
  by_cases h1 : s = s'
  · by_cases h2 : b = b'
    · by_cases h3 : x = x'
      · simp [h1, h2, h3]
      · have h4 : ¬ (x : Int) = (x' : Int) := by omega
        simp [h1, h2, h3, h4]
    · have h4 : ¬ (b : Int) = (b' : Int) := by omega
      simp [h1, h2, h4]
  · have h4 : ¬ (s : Int) = (s' : Int) := by omega
    simp [h1, h4]
theorem symv_eql (s b x s' b' x' : Nat) : (∀ (p q : Operand) (w : World), (eqGuard .eql 81 p q (symv s b x) (symv s' b' x')).run Tryd.prog w = .ok () w) ∧ (∀ w : World, (binOp .eql 81 (symv s b x) (symv s' b' x')).run Tryd.prog w = .ok (.bool (decide (s = s' ∧ b = b' ∧ x = x'))) w) := by
  refine ⟨fun p q w => run_eqGuard_agg w .eql _ p q _ _ (by kernel_rfl), fun w => ?_⟩
  have h := symv_equal s b x s' b' x' w
  unfold symv at h ⊢
  rw [run_eql_struct, h]
  rfl

def inI (n : Int) : Prop := -9223372036854775808 ≤ n ∧ n ≤ 9223372036854775807
def lenOfV (s : Int) : Nat × Nat × Bool := if 257 ≤ s ∧ s ≤ 285 then (least lens (s - 257).toNat, wid lens (s - 257).toNat, true) else (0, 0, false)
def distOfV (s : Int) : Nat × Nat × Bool := if 0 ≤ s ∧ s < 30 then (least dists s.toNat, wid dists s.toNat, true) else (0, 0, false)
def trip (p : Nat × Nat × Bool) : Value := .tuple #[.int .i64 (p.1 : Int), .int .i64 (p.2.1 : Int), .bool p.2.2]
/-- a call answers two slices of numbers -/
def Two (w : World) (X Y : List Nat) (e : Ending) (w' : World) : Prop :=
  ∃ Aa ca Ab cb, e = .returned (.tuple #[.slice Aa X.length ca, .slice Ab Y.length cb]) ∧ Rd w' Aa X.length (X.map natc) ∧ Rd w' Ab Y.length (Y.map natc) ∧ Fr (fun _ => False) w w'
theorem run_max7 (n k m : Int) (h : m = max n k) (w : World) : (Builtin.max_ #[3, 3] 3 #[.int .i64 n, .int .i64 k]).run Tryd.prog w = .ok (.int .i64 m) w := by
  rw [h]
  go_simp
  split <;> omega
theorem run_min7 (n k m : Int) (h : m = min n k) (w : World) : (Builtin.min_ #[3, 3] 3 #[.int .i64 n, .int .i64 k]).run Tryd.prog w = .ok (.int .i64 m) w := by
  rw [h]
  go_simp
  split <;> omega

theorem run_cv (e : Nat) (he : e ≤ 32768) (w : World) : (convert 3 44 (.int .i64 (e : Int))).run Tryd.prog w = .ok (.int .u64 (e : Int)) w := by
  go_simp
  unfold IntKind.wrap
  simp [IntKind.bits, IntKind.signed]
  omega
end Go.Proofs.YtahfmcdhcbfkaaaDoor
