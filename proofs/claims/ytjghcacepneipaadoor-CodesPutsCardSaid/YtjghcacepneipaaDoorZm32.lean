/-
  Layer 8's program: repeat.
  Layer 8's program: same, choose.
-/
import Derived.Test.YtjghcacepneipaaDoorZm31
import Derived.Test.YtjghcacepneipaaDoorZm26
namespace Go.Proofs.YtjghcacepneipaaDoor
open Go.RowKit CoM Mem Go.Lib
attribute [local go_sem ↓] Go.wp_at_zero Go.wp_at_succ
set_option linter.unusedVariables false

theorem itmSz : (Tryd.prog.info? 32).map (·.size) = some 3 := by kernel_rfl
theorem itm_one (a b c : Nat) : [Value.int .i64 (a : Int), .int .i64 (b : Int), .int .u64 (c : Int)].toArray.all (·.oneCell') = true := by simp [Value.oneCell']
def itv (t : It) : Value := .agg #[.int .i64 (t.s : Int), .int .i64 (t.b : Int), .int .u64 (t.x : Int)]
theorem spn_le {k a b c : Nat} (h : spn[k]? = some (a, b, c)) : a ≤ b ∧ b ≤ 138 ∧ c ≤ 7 ∧ 3 ≤ a ∧ b < a + 2 ^ c := by
  match k, h with
  | 0, h => simp [spn] at h; obtain ⟨rfl, rfl, rfl⟩ := h; decide
  | 1, h => simp [spn] at h; obtain ⟨rfl, rfl, rfl⟩ := h; decide
  | 2, h => simp [spn] at h; obtain ⟨rfl, rfl, rfl⟩ := h; decide
  | k + 3, h => simp [spn] at h
set_option maxRecDepth 100000 in
set_option maxHeartbeats 1600000 in
theorem repeat_any (s k a b c n m : Nat) (hk : s = 16 + k) (h : spn[k]? = some (a, b, c)) (hn : a ≤ n) (hn2 : n ≤ 1000000) (hm : m = min n b) (w : World) (hG : GlS w) :
    Calls Tryd.prog 47 #[.int .i64 (s : Int), .int .i64 (n : Int)] w fun e w' => e = .returned (.tuple #[itv ⟨s, c, m - a⟩, .int .i64 (m : Int)]) ∧ Fr (fun _ => False) w w' := by
  obtain ⟨b1, b2, b3, b4, b5⟩ := spn_le h
  obtain ⟨x, hx⟩ : ∃ x, x = m - a := ⟨_, rfl⟩
  have hxi : (m : Int) - (a : Int) = (x : Int) := by omega
  have hxw : IntKind.i64.wrap ((m : Int) - (a : Int)) = (x : Int) := by rw [IntKind.wrap_i64]; omega
  have hxu : IntKind.u64.wrap ((m : Int) - (a : Int)) = (x : Int) := by unfold IntKind.wrap; simp [IntKind.bits, IntKind.signed]; omega
  have q1 := run_min8 (n : Int) (b : Int) (m : Int) (by omega)
  have q2 := conv_u64 x (by omega)
  have hsp : ∀ w, GlS w → Calls Tryd.prog 46 #[.int .i64 (s : Int)] w fun e w' => e = .returned (.agg #[.int .i64 (a : Int), .int .i64 (b : Int), .int .i64 (c : Int)]) ∧ Fr (fun _ => False) w w' := fun w hG => spanOf_any s k a b c hk h w hG
  have HSP := Lib.hid hsp
  have hmb : m ≤ 138 := by omega
  have HG := Lib.hid hG
  unfold itv
  simp only
  rw [← hx]
  clear hsp hG h hk hm hx b1 b2 b3 b4 b5 hn
  go_enter Tryd.func47, Tryd.ntmps47
  go_upto_region 1 with fail
  obtain ⟨w1, hw1⟩ : ∃ w1, w1 = w.alloc (.cells #[Value.int .i64 0, .int .i64 0, .int .u64 0] 32) := ⟨_, rfl⟩
  have hr1 : Row w1 w.heap.size 32 [Value.int .i64 0, .int .i64 0, .int .u64 0] := by rw [hw1]; exact Row.new w _ _
  have hf1 : Fr (fun _ => False) w w1 := by rw [hw1]; exact (Fr.refl _ w).alloc _
  obtain ⟨r, hr⟩ : ∃ r, r = w.heap.size := ⟨_, rfl⟩
  rw [← hw1]
  rw [← hr] at hr1 ⊢
  have HF1 := Lib.hid hf1
  have HR1 := Lib.hid hr1
  have HRW : Hid (w.heap.size ≤ r) := Lib.hid (by omega)
  have HG1 := Lib.hid (HG.out.fr0 hf1)
  clear hw1 hf1 hr1 hr
  go_wp2_with (first
    | (refine (HSP.out w1 HG1.out).mono ?_
       rintro e w2 ⟨rfl, hf2⟩
       have HF2 := Lib.hid (HF1.out.trans hf2 (fun _ _ h => h))
       have HR2 := Lib.hid (HR1.out.fr hf2 (fun h => h))
       clear hf2)
    | (refine store_st itmSz rfl (.tmp 4) (.tmp 21) rfl r (by rfl) [.int .i64 (s : Int), .int .i64 (c : Int), .int .u64 (x : Int)] (by rfl) _ _ (HR2.out.alloc _) rfl rfl (itm_one s c x) ?_
       intro w4 hr4 hf4
       have HR4 := Lib.hid hr4
       have HF4 := Lib.hid ((HF2.out.alloc _).trans hf4 (fun b hb h => by have := HRW.out; omega))
       clear hr4 hf4))
  have d0 : w4.cell? ⟨r, 0, none⟩ = some (.int .i64 (s : Int)) := HR4.out.cell rfl
  have d1 : w4.cell? ⟨r, 1, none⟩ = some (.int .i64 (c : Int)) := HR4.out.cell rfl
  have d2 : w4.cell? ⟨r, 2, none⟩ = some (.int .u64 (x : Int)) := HR4.out.cell rfl
  go_wp2_with fail
  exact bodyPost_ret (v := .tuple #[.agg #[.int .i64 (s : Int), .int .i64 (c : Int), .int .u64 (x : Int)], .int .i64 (m : Int)]) (by simp [results, Tryd.results47, go_sem, d0, d1, d2]) rfl ⟨rfl, HF4.out⟩
end Go.Proofs.YtjghcacepneipaaDoor
namespace Go.Proofs.YtjghcacepneipaaDoor
open Go.RowKit CoM Mem Go.Lib
attribute [local go_sem ↓] Go.wp_at_zero Go.wp_at_succ
set_option linter.unusedVariables false

theorem run_fld1 (a b c : Int) (w : World) : (Instr.field 77 (.agg #[.int .i64 a, .int .i64 b, .int .i64 c]) 1).run Tryd.prog w = .ok (.int .i64 b) w := by
  unfold Instr.field
  go_simp
  rfl
theorem run_fld0 (a b c : Int) (w : World) : (Instr.field 77 (.agg #[.int .i64 a, .int .i64 b, .int .i64 c]) 0).run Tryd.prog w = .ok (.int .i64 a) w := by
  unfold Instr.field
  go_simp
  rfl
theorem span18 (w : World) (hG : GlS w) : Calls Tryd.prog 46 #[.int .i64 18] w fun e w' => e = .returned (.agg #[.int .i64 11, .int .i64 138, .int .i64 7]) ∧ Fr (fun _ => False) w w' := spanOf_any 18 2 11 138 7 rfl rfl w hG
theorem span17 (w : World) (hG : GlS w) : Calls Tryd.prog 46 #[.int .i64 17] w fun e w' => e = .returned (.agg #[.int .i64 3, .int .i64 10, .int .i64 3]) ∧ Fr (fun _ => False) w w' := spanOf_any 17 1 3 10 3 rfl rfl w hG
theorem span16 (w : World) (hG : GlS w) : Calls Tryd.prog 46 #[.int .i64 16] w fun e w' => e = .returned (.agg #[.int .i64 3, .int .i64 6, .int .i64 2]) ∧ Fr (fun _ => False) w w' := spanOf_any 16 0 3 6 2 rfl rfl w hG

/-- how often the first comes, at most so often as an item tells -/
theorem rn0_of (M : List Nat) (m : Nat) (h1 : m ≤ M.length) (h2 : ∀ j, j < m → M[j]! = M[0]!) (h3 : m = M.length ∨ M[m]! ≠ M[0]!) : rn M 0 = m :=
  rn_of M 0 m (by omega) (fun j hj => by rw [Nat.zero_add]; exact h2 j hj) (by rw [Nat.zero_add]; exact h3)

theorem while_ge (v : Nat) : ∀ (M : List Nat) (m : Nat), m ≤ M.length → (∀ j, j < m → M[j]! = v) → m ≤ (M.takeWhile (· == v)).length
  | [], m, h, _ => by simp at h; omega
  | x :: M, 0, _, _ => Nat.zero_le _
  | x :: M, m + 1, h, h1 => by
    have hx : x = v := h1 0 (by omega)
    rw [List.takeWhile_cons, if_pos (by simpa using hx), List.length_cons]
    have := while_ge v M m (by simpa using h) (fun j hj => h1 (j + 1) (by omega))
    omega
theorem rn0_ge (M : List Nat) (m : Nat) (h1 : m ≤ M.length) (h2 : ∀ j, j < m → M[j]! = M[0]!) : m ≤ rn M 0 := while_ge _ _ m h1 h2
set_option maxRecDepth 100000 in
set_option maxHeartbeats 3200000 in
theorem same_any (A : Option Addr) (n c : Nat) (M : List Nat) (w : World) (hG : GlS w) (hr : Rd w A n (M.map natc)) (hn : 1 ≤ n) (hn2 : n ≤ 1000) :
    Calls Tryd.prog 45 #[.slice A n c] w fun e w' => e = .returned (.int .i64 (min (rn M 0) 138 : Nat)) ∧ Fr (fun _ => False) w w' := by
  have hln : M.length = n := by simpa using hr.1
  have HRD := Lib.hid hr
  have HLN := Lib.hid hln
  have HG := Lib.hid hG
  obtain ⟨m, hm⟩ : ∃ m, m = min n 138 := ⟨_, rfl⟩
  have q1 := run_min8 (n : Int) 138 (m : Int) (by omega)
  have q2 := run_fld1
  have hmn : m ≤ n := by omega
  have hm1 : 1 ≤ m := by omega
  have HM := Lib.hid hm
  have HS : Hid (∀ w, GlS w → Calls Tryd.prog 46 #[.int .i64 18] w fun e w' => e = .returned (.agg #[.int .i64 11, .int .i64 138, .int .i64 7]) ∧ Fr (fun _ => False) w w') := Lib.hid span18
  obtain ⟨ad, rfl, c0⟩ := nat_cell hr (k := 0) (by omega)
  obtain ⟨R, hR⟩ : ∃ R, R = min (rn M 0) 138 := ⟨_, rfl⟩
  rw [← hR]
  have HRR := Lib.hid hR
  have hn0 : (0 : Int) < (n : Int) := by omega
  have hn0q : 0 < n := by omega
  clear hr hln hG hm c0 hR
  go_enter Tryd.func45, Tryd.ntmps45
  go_wp2_with (refine (HS.out w HG.out).mono ?_; rintro e w2 ⟨rfl, hf2⟩)
  have HF2 := Lib.hid hf2
  clear hf2
  go_loopw [4] (fun i wr => ∃ k : Nat, 1 ≤ k ∧ k ≤ m ∧ i = .int .i64 (k : Int) ∧ Hid (∀ j, j < k → M[j]! = M[0]!) ∧ Hid (Fr (fun _ => False) w wr)) (fun i _ => n - (intOf i).toNat)
  case atStart => exact ⟨1, by omega, by omega, rfl, fun j hj => by rw [show j = 0 by omega], HF2.out⟩
  case round =>
    obtain ⟨k, hk1, hk, rfl, HE, HF⟩ := hrel
    rename World => wr
    by_cases hlt : k < m
    · have hrd := HRD.out.fr HF.out (fun _ _ h => h)
      obtain ⟨ad1, e1, ck⟩ := nat_cell hrd (k := k) (by omega)
      obtain ⟨ad2, e2, c0⟩ := nat_cell hrd (k := 0) (by omega)
      injection e1 with e1
      injection e2 with e2
      subst e1
      subst e2
      obtain ⟨a, ha⟩ : ∃ a, a = M[k]! := ⟨_, rfl⟩
      obtain ⟨b, hb⟩ : ∃ a, a = M[0]! := ⟨_, rfl⟩
      rw [← ha] at ck
      rw [← hb] at c0
      have HAB := Lib.hid (And.intro ha hb)
      rw [show ad.add 0 = ad from rfl] at c0
      have hkn : k < n := by omega
      clear hrd ha hb
      by_cases hv : a = b
      · have tv : ((a : Int) != (b : Int)) = false := by simp [hv]
        have hs2 : ∀ j, j < k + 1 → M[j]! = M[0]! := by
          intro j hj
          by_cases e : j = k
          · rw [e, ← HAB.out.1, ← HAB.out.2]; exact hv
          · exact HE.out j (by omega)
        have HS2 := Lib.hid hs2
        clear hs2 hv
        go_wp2_with fail
        go_still (by kernel_rfl)
        go_wp2_with fail
        exact ⟨⟨k + 1, by omega, by omega, by go_num, HS2.out, HF.out.drew⟩, by simp [intOf]; omega⟩
      · have tv : ((a : Int) != (b : Int)) = true := by simp; omega
        have hl : rn M 0 = k := rn0_of M k (by rw [HLN.out]; omega) HE.out (.inr (by rw [← HAB.out.1, ← HAB.out.2]; exact hv))
        have hres : R = k := by have h := HRR.out; rw [hl] at h; have := HM.out; omega
        have HRES := Lib.hid hres
        clear hl hres hv
        go_wp2_with fail
        go_still (by kernel_rfl)
        go_wp2_with fail
        go_ret
        have hrr := HRES.out
        subst hrr
        exact ⟨rfl, HF.out.drew⟩
    · have hkm : k = m := by omega
      have hres : R = m := by
        rw [HRR.out]
        rcases Nat.lt_or_ge m n with h | h
        · have h138 : m = 138 := by have := HM.out; omega
          have hge : 138 ≤ rn M 0 := rn0_ge M 138 (by rw [HLN.out]; omega) (fun j hj => HE.out j (by omega))
          omega
        · have h1 : m = n := by omega
          have := rn0_of M m (by rw [HLN.out]; omega) (fun j hj => HE.out j (by omega)) (.inl (by rw [HLN.out]; exact h1))
          have := HM.out
          omega
      have HRES := Lib.hid hres
      clear hres
      go_wp2_with fail
      go_ret
      have hrr := HRES.out
      subst hrr
      exact ⟨rfl, HF.out⟩
end Go.Proofs.YtjghcacepneipaaDoor
