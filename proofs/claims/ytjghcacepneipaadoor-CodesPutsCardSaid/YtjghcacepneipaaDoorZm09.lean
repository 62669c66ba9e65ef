/-
  Layer 8's laws: the lengths of two codes that a law makes of bytes.
  Layer 8's laws: awake, out of the contract of Press.
-/
import Derived.Test.YtjghcacepneipaaDoorZm04
import Derived.Test.YtjghcacepneipaaDoorZm05
import Derived.Test.YtjghcacepneipaaDoorZm08
import Derived.Deep.DrawnRows
import Derived.StillTailTactics
import Derived.Deep.DeepCutAuto
import Derived.Deep.QuietTactic
import Derived.BigQuiet
namespace Go.Proofs.YtjghcacepneipaaDoor
open Go.RowKit CoM Mem Go.Lib
attribute [local go_sem ↓] Go.wp_at_zero Go.wp_at_succ
set_option linter.unusedVariables false

/-- N lengths out of bytes, 0 behind them -/
def padL (N : Nat) (B : List UInt8) : List Nat := (modL B).take N ++ List.replicate (N - B.length) 0
theorem padL_len (N : Nat) (B : List UInt8) : (padL N B).length = N := by
  unfold padL
  rw [List.length_append, List.length_take, modL_len, List.length_replicate]
  omega
theorem padL_le (N : Nat) (B : List UInt8) : ∀ x ∈ padL N B, x ≤ 15 := by
  intro x hx
  rcases List.mem_append.1 hx with h | h
  · exact modL_le B x (List.mem_of_mem_take h)
  · have := List.eq_of_mem_replicate h; omega
/-- the first k are filled in -/
def part (N : Nat) (B : List UInt8) (k : Nat) : List Nat := (modL B).take k ++ List.replicate (N - k) 0
theorem part_zero (N : Nat) (B : List UInt8) : part N B 0 = List.replicate N 0 := by simp [part]
theorem part_len (N : Nat) (B : List UInt8) (k : Nat) (h1 : k ≤ N) (h2 : k ≤ B.length) : (part N B k).length = N := by
  unfold part
  rw [List.length_append, List.length_take, modL_len, List.length_replicate]
  omega
theorem part_set (N : Nat) (B : List UInt8) (k : Nat) (b : UInt8) (h1 : k < N) (hb : B[k]? = some b) : (part N B k).set k (b.toNat % 16) = part N B (k + 1) := by
  have hk := (List.getElem?_eq_some_iff.1 hb).1
  have he := (List.getElem?_eq_some_iff.1 hb).2
  unfold part
  rw [List.set_append_right _ _ (by rw [List.length_take, modL_len]; omega), List.length_take, modL_len, Nat.min_eq_left (by omega), Nat.sub_self, show N - k = (N - (k + 1)) + 1 by omega, List.replicate_succ, List.set_cons_zero, ← List.take_append_getElem (show k < (modL B).length by rw [modL_len]; exact hk), List.append_assoc]
  congr 1
  show _ :: _ = _
  rw [List.singleton_append]
  congr 1
  simp [modL, he]
theorem part_all (N : Nat) (B : List UInt8) (k : Nat) (h1 : k ≤ N) (h2 : k ≤ B.length) (h : k = N ∨ k = B.length) : part N B k = padL N B := by
  unfold part padL
  rcases h with rfl | rfl
  · rw [show k - k = 0 by omega, show k - B.length = 0 by omega]
  · rw [List.take_of_length_le (by rw [modL_len]; exact Nat.le_refl _), List.take_of_length_le (by rw [modL_len]; exact h1)]
theorem byte_cell {w : World} {A : Option Addr} {n : Nat} {B : List UInt8} (h : Rd w A n (B.map bytec)) {k : Nat} (hk : k < n) : ∃ ad b, A = some ad ∧ B[k]? = some b ∧ w.cell? (ad.add k) = some (.int .u8 (b.toNat : Int)) := by
  have hl : B.length = n := by simpa using h.1
  obtain ⟨ad, u, e, h1, h2⟩ := h.at_ hk
  rw [List.getElem?_map, List.getElem?_eq_getElem (by omega)] at h1
  refine ⟨ad, B[k], e, List.getElem?_eq_getElem _, ?_⟩
  rw [h2, ← h1]
  rfl

set_option maxRecDepth 100000 in
set_option maxHeartbeats 3200000 in
theorem two_any (A A2 : Option Addr) (n c n2 c2 : Nat) (B B2 : List UInt8) (w : World) (hr : Rd w A n (B.map bytec)) (hs : Rd w A2 n2 (B2.map bytec)) (hn : n ≤ 1000) (hn2 : n2 ≤ 1000) :
    Calls Tryd.prog 13 #[.slice A n c, .slice A2 n2 c2] w fun e w' => ∃ ga gb, e = .returned (.tuple #[.slice (some ⟨ga, 0, none⟩) 286 286, .slice (some ⟨gb, 0, none⟩) 30 30]) ∧ w.heap.size ≤ ga ∧ w.heap.size ≤ gb ∧ NR w' ga (padL 286 B) ∧ NR w' gb (padL 30 B2) ∧ Fr (fun _ => False) w w' := by
  have hbl : B.length = n := by simpa using hr.1
  have hbl2 : B2.length = n2 := by simpa using hs.1
  have HR := Lib.hid hr
  have HS := Lib.hid hs
  have HBL := Lib.hid (And.intro hbl hbl2)
  have hmk1 : ∀ w : World, (Instr.makeSlice 26 (.int .i64 286) (.int .i64 286)).run Tryd.prog w = .ok (.slice (some ⟨w.heap.size, 0, none⟩) 286 286) (w.alloc (.cells (Array.replicate 286 (.int .i64 0)) 3)) := mk_int 286 (by omega)
  have hmk2 : ∀ w : World, (Instr.makeSlice 26 (.int .i64 30) (.int .i64 30)).run Tryd.prog w = .ok (.slice (some ⟨w.heap.size, 0, none⟩) 30 30) (w.alloc (.cells (Array.replicate 30 (.int .i64 0)) 3)) := mk_int 30 (by omega)
  obtain ⟨ra, hra⟩ : ∃ r, r = Array.replicate 286 (Value.int .i64 0) := ⟨_, rfl⟩
  obtain ⟨rb, hrb⟩ : ∃ r, r = Array.replicate 30 (Value.int .i64 0) := ⟨_, rfl⟩
  have hza : ∀ w : World, NR (w.alloc (.cells ra 3)) w.heap.size (part 286 B 0) := fun w => by rw [hra, part_zero]; exact NR.zeros w 286
  have hzb : ∀ w : World, NR (w.alloc (.cells rb 3)) w.heap.size (part 30 B2 0) := fun w => by rw [hrb, part_zero]; exact NR.zeros w 30
  rw [← hra] at hmk1
  rw [← hrb] at hmk2
  have HZA := Lib.hid hza
  have HZB := Lib.hid hzb
  clear hr hs hbl hbl2 hra hrb hza hzb
  go_enter Tryd.func13, Tryd.ntmps13
  go_upto_region 1 with fail
  go_cut [6, 7] (fun a b wx => ∃ ga gb, a = .slice (some ⟨ga, 0, none⟩) 286 286 ∧ b = .slice (some ⟨gb, 0, none⟩) 30 30 ∧ ga ≠ gb ∧ w.heap.size ≤ ga ∧ w.heap.size ≤ gb ∧ NR wx ga (part 286 B 0) ∧ NR wx gb (part 30 B2 0) ∧ Fr (fun _ => False) w wx)
  case first =>
    go_region
    · go_wp2_with fail
      go_meet
      refine ⟨w.heap.size, w.heap.size + 1, rfl, rfl, by omega, by omega, by omega, ?_, ?_, (((Fr.refl _ w).alloc _).alloc _).drew⟩
      · exact Row.drew (Row.alloc (HZA.out w) _)
      · have h := HZB.out (w.alloc (.cells ra 3))
        rw [show (w.alloc (.cells ra 3)).heap.size = w.heap.size + 1 by simp] at h
        exact Row.drew h
    · go_wp2_with fail
      go_meet
      refine ⟨w.heap.size + 1, w.heap.size, rfl, rfl, by omega, by omega, by omega, ?_, ?_, (((Fr.refl _ w).alloc _).alloc _).drew⟩
      · have h := HZA.out (w.alloc (.cells rb 3))
        rw [show (w.alloc (.cells rb 3)).heap.size = w.heap.size + 1 by simp] at h
        exact Row.drew h
      · exact Row.drew (Row.alloc (HZB.out w) _)
  obtain ⟨ga, gb, rfl, rfl, hab, hga, hgb, ha, hb, hf⟩ := hcut
  rename World => w1
  have HAB := Lib.hid (And.intro hab (And.intro hga hgb))
  have HN1 : Hid (NR w1 ga (part 286 B 0) ∧ NR w1 gb (part 30 B2 0)) := Lib.hid ⟨ha, hb⟩
  have HF1 := Lib.hid hf
  clear hab hga hgb ha hb hf hmk1 hmk2
  go_wp2_with fail
  go_loopw [8] (fun i wr => ∃ k : Nat, k ≤ 286 ∧ k ≤ n ∧ i = .int .i64 (k : Int) ∧ Hid (NR wr ga (part 286 B k) ∧ NR wr gb (part 30 B2 0)) ∧ Hid (Fr (fun _ => False) w wr)) (fun i _ => 286 - (intOf i).toNat)
  case atStart => exact ⟨0, by omega, by omega, rfl, HN1.out, HF1.out⟩
  case round =>
    obtain ⟨k, hk, hkn, rfl, HN, HF⟩ := hrel
    rename World => wr
    by_cases hlt : k < n ∧ k < 286
    · obtain ⟨h1, h2⟩ := hlt
      obtain ⟨ad, b, rfl, hb, hc⟩ := byte_cell (HR.out.fr HF.out (fun _ _ h => h)) h1
      obtain ⟨u, hu⟩ : ∃ u, u = b.toNat := ⟨_, rfl⟩
      obtain ⟨x, hx⟩ : ∃ x, x = u % 16 := ⟨_, rfl⟩
      have hu256 : u < 256 := by rw [hu]; exact b.toNat_lt
      rw [← hu] at hc
      have hcv : ∀ w : World, (convert 5 3 (.int .u8 (u : Int))).run Tryd.prog w = .ok (.int .i64 (u : Int)) w := by
        intro w
        go_simp
        rw [IntKind.wrap_i64]
        omega
      have hrem : (u : Int).tmod 16 = (x : Int) := by rw [Int.tmod_eq_emod_of_nonneg (by omega)]; omega
      have f1 : wr.frozen? ⟨ga, k, none⟩ = false := Row.free HN.out.1 k
      have c1 := HN.out.1.at_ (i := k) (by rw [part_len _ _ _ hk (by rw [HBL.out.1]; exact hkn)]; exact h2)
      have hp := HN.out.1.set k x
      rw [hx, hu, part_set 286 B k b h2 hb, ← hu, ← hx] at hp
      have HN2 : Hid (NR (wr.setCell ⟨ga, k, none⟩ (.int .i64 (x : Int))) ga (part 286 B (k + 1)) ∧ NR (wr.setCell ⟨ga, k, none⟩ (.int .i64 (x : Int))) gb (part 30 B2 0)) := Lib.hid ⟨hp, Row.other HN.out.2 (fun e => HAB.out.1 e.symm) _⟩
      have HF2 : Hid (Fr (fun _ => False) w (wr.setCell ⟨ga, k, none⟩ (.int .i64 (x : Int)))) := Lib.hid (HF.out.trans (Fr.set1 wr ga k _) (fun b hb h => by have := HAB.out.2.1; omega))
      have hki : (k : Int) < 286 := by omega
      clear hb hu hx hp
      go_wp2_with fail
      exact ⟨⟨k + 1, by omega, by omega, by go_num, HN2.out, HF2.out⟩, by simp [intOf]; omega⟩
    · have hn := HN.out
      rw [part_all 286 B k hk (by rw [HBL.out.1]; exact hkn) (by rw [HBL.out.1]; omega)] at hn
      have HN3 := Lib.hid hn
      rename World => w2
      have HK := Lib.hid hlt
      clear hn HN HN1 HF1
      rcases (show ¬ k < n ∨ (k < n ∧ ¬ k < 286) by omega) with t | ⟨t, t2⟩
      all_goals
        clear hlt
        go_wp2_with fail
        go_loopw [9] (fun i wr => ∃ k : Nat, k ≤ 30 ∧ k ≤ n2 ∧ i = .int .i64 (k : Int) ∧ Hid (NR wr ga (padL 286 B) ∧ NR wr gb (part 30 B2 k)) ∧ Hid (Fr (fun _ => False) w wr)) (fun i _ => 30 - (intOf i).toNat)
        case atStart => exact ⟨0, by omega, by omega, rfl, HN3.out, HF.out⟩
        case round =>
          obtain ⟨j, hj, hjn, rfl, HN4, HF4⟩ := hrel
          rename World => wr
          by_cases hlt : j < n2 ∧ j < 30
          · obtain ⟨h1, h2⟩ := hlt
            obtain ⟨ad, b, rfl, hb, hc⟩ := byte_cell (HS.out.fr HF4.out (fun _ _ h => h)) h1
            obtain ⟨u, hu⟩ : ∃ u, u = b.toNat := ⟨_, rfl⟩
            obtain ⟨x, hx⟩ : ∃ x, x = u % 16 := ⟨_, rfl⟩
            have hu256 : u < 256 := by rw [hu]; exact b.toNat_lt
            rw [← hu] at hc
            have hcv : ∀ w : World, (convert 5 3 (.int .u8 (u : Int))).run Tryd.prog w = .ok (.int .i64 (u : Int)) w := by
              intro w
              go_simp
              rw [IntKind.wrap_i64]
              omega
            have hrem : (u : Int).tmod 16 = (x : Int) := by rw [Int.tmod_eq_emod_of_nonneg (by omega)]; omega
            have f1 : wr.frozen? ⟨gb, j, none⟩ = false := Row.free HN4.out.2 j
            have c1 := HN4.out.2.at_ (i := j) (by rw [part_len _ _ _ hj (by rw [HBL.out.2]; exact hjn)]; exact h2)
            have hp := HN4.out.2.set j x
            rw [hx, hu, part_set 30 B2 j b h2 hb, ← hu, ← hx] at hp
            have HN2 : Hid (NR (wr.setCell ⟨gb, j, none⟩ (.int .i64 (x : Int))) ga (padL 286 B) ∧ NR (wr.setCell ⟨gb, j, none⟩ (.int .i64 (x : Int))) gb (part 30 B2 (j + 1))) := Lib.hid ⟨Row.other HN4.out.1 HAB.out.1 _, hp⟩
            have HF2 : Hid (Fr (fun _ => False) w (wr.setCell ⟨gb, j, none⟩ (.int .i64 (x : Int)))) := Lib.hid (HF4.out.trans (Fr.set1 wr gb j _) (fun b hb h => by have := HAB.out.2.2; omega))
            have hki : (j : Int) < 30 := by omega
            clear hb hu hx hp
            go_wp2_with fail
            exact ⟨⟨j + 1, by omega, by omega, by go_num, HN2.out, HF2.out⟩, by simp [intOf]; omega⟩
          · have hn := HN4.out
            rw [part_all 30 B2 j hj (by rw [HBL.out.2]; exact hjn) (by rw [HBL.out.2]; omega)] at hn
            have HN5 := Lib.hid hn
            clear hn HN4
            rcases (show ¬ j < n2 ∨ (j < n2 ∧ ¬ j < 30) by omega) with s | ⟨s, s2⟩
            all_goals
              clear hlt
              go_wp2_with fail
              exact bodyPost_ret (v := .tuple #[.slice (some ⟨ga, 0, none⟩) 286 286, .slice (some ⟨gb, 0, none⟩) 30 30]) (by simp [results, Tryd.results13, go_sem]) rfl ⟨_, _, rfl, HAB.out.2.1, HAB.out.2.2, HN5.out.1, HN5.out.2, HF4.out⟩
end Go.Proofs.YtjghcacepneipaaDoor
namespace Go.Proofs.YtjghcacepneipaaDoor
open Go.RowKit CoM Mem Go.Lib
attribute [local go_sem ↓] Go.wp_at_zero Go.wp_at_succ
set_option linter.unusedVariables false

theorem itm_equal (s b x : Nat) (w : World) : (Op.equalIn 10000 32 (.agg #[.int .i64 (s : Int), .int .i64 (b : Int), .int .u64 (x : Int)]) (.agg #[.int .i64 (s : Int), .int .i64 (b : Int), .int .u64 (x : Int)])).run Tryd.prog w = .ok true w := by
  have h := run_equalIn_agg (P := Tryd.prog) w 9999 32 #[.int .i64 (s : Int), .int .i64 (b : Int), .int .u64 (x : Int)] #[.int .i64 (s : Int), .int .i64 (b : Int), .int .u64 (x : Int)] (by unfold Program.fieldsOf; rw [Tryd.underlying32]) (by kernel_rfl)
  rw [h]
  clear h
  unfold Program.fieldsOf
  rw [Tryd.underlying32]
  go_simp
theorem itm_eql (s b x : Nat) : (∀ (p q : Operand) (w : World), (eqGuard .eql 32 p q (.agg #[.int .i64 (s : Int), .int .i64 (b : Int), .int .u64 (x : Int)]) (.agg #[.int .i64 (s : Int), .int .i64 (b : Int), .int .u64 (x : Int)])).run Tryd.prog w = .ok () w) ∧ (∀ w : World, (binOp .eql 32 (.agg #[.int .i64 (s : Int), .int .i64 (b : Int), .int .u64 (x : Int)]) (.agg #[.int .i64 (s : Int), .int .i64 (b : Int), .int .u64 (x : Int)])).run Tryd.prog w = .ok (.bool true) w) := by
  refine ⟨fun p q w => run_eqGuard_agg w .eql _ p q _ _ (by kernel_rfl), fun w => ?_⟩
  have h := itm_equal s b x w
  rw [run_eql_struct, h]
  rfl
theorem items_5555 : items [5, 5, 5, 5] = [⟨5, 0, 0⟩, ⟨16, 2, 0⟩] := by decide +kernel

def Awake8 (w0 : World) : Prop := ∀ w, Fr (fun _ => False) w0 w → Calls Tryd.prog 9 #[] w fun e w' => e = .returned (.bool true) ∧ Fr (fun _ => False) w w'
set_option maxRecDepth 100000 in
set_option maxHeartbeats 1600000 in
theorem awake8_any {w0 : World} (HP : PressC w0) : Awake8 w0 := by
  intro w hw0
  have HW0 := Lib.hid hw0
  have HPX := Lib.hid HP
  clear HP hw0
  go_enter Tryd.func9, Tryd.ntmps9
  go_wp2_with fail
  obtain ⟨w1, hw1⟩ : ∃ w1, w.alloc (.cells #[.int .i64 5, .int .i64 5, .int .i64 5, .int .i64 5] 3) = w1 := ⟨_, rfl⟩
  rw [hw1]
  have hf1 : Fr (fun _ => False) w w1 := by rw [← hw1]; exact (Fr.refl _ _).alloc _
  have hr1 : Rd w1 (some ⟨w.heap.size, 0, none⟩) 4 (([5, 5, 5, 5] : List Nat).map natc) := by
    rw [← hw1]
    exact Rd.cells rfl [.int .i64 5, .int .i64 5, .int .i64 5, .int .i64 5] _
  refine (HPX.out _ 4 4 [5, 5, 5, 5] w1 (HW0.out.trans hf1 (fun _ _ h => h)) hr1 (by omega) (by unfold maxLen; omega) (by omega) (by simp)).mono ?_
  rintro e w2 ⟨A2, c2, rfl, hO, hf2⟩
  rw [items_5555] at hO ⊢
  have HF := Lib.hid (hf1.trans hf2 (fun _ _ h => h))
  obtain ⟨g, o, rfl, hg, h1, h2, h3⟩ := hO.2 0 _ rfl
  obtain ⟨g', o', e, hg', k1, k2, k3⟩ := hO.2 1 _ rfl
  obtain ⟨rfl, rfl⟩ : g = g' ∧ o = o' := by injection e with e; injection e with e1 e2; exact ⟨e1, e2⟩
  clear hw1 hf1 hr1 hO hf2 hg hg' e
  have a1 : w2.cell? ⟨g, o, none⟩ = some (.int .i64 5) := h1
  have a2 : w2.cell? ⟨g, o + 1, none⟩ = some (.int .i64 0) := h2
  have a3 : w2.cell? ⟨g, o + 2, none⟩ = some (.int .u64 0) := h3
  have b1 : w2.cell? ⟨g, o + 3, none⟩ = some (.int .i64 16) := k1
  have b2 : w2.cell? ⟨g, o + 3 + 1, none⟩ = some (.int .i64 2) := k2
  have b3 : w2.cell? ⟨g, o + 3 + 2, none⟩ = some (.int .u64 0) := k3
  have q1 : ∀ (x y : Operand) (w : World), (eqGuard .eql 32 x y (.agg #[.int .i64 5, .int .i64 0, .int .u64 0]) (.agg #[.int .i64 5, .int .i64 0, .int .u64 0])).run Tryd.prog w = .ok () w := (itm_eql 5 0 0).1
  have q2 : ∀ w : World, (binOp .eql 32 (.agg #[.int .i64 5, .int .i64 0, .int .u64 0]) (.agg #[.int .i64 5, .int .i64 0, .int .u64 0])).run Tryd.prog w = .ok (.bool true) w := (itm_eql 5 0 0).2
  have q3 : ∀ (x y : Operand) (w : World), (eqGuard .eql 32 x y (.agg #[.int .i64 16, .int .i64 2, .int .u64 0]) (.agg #[.int .i64 16, .int .i64 2, .int .u64 0])).run Tryd.prog w = .ok () w := (itm_eql 16 2 0).1
  have q4 : ∀ w : World, (binOp .eql 32 (.agg #[.int .i64 16, .int .i64 2, .int .u64 0]) (.agg #[.int .i64 16, .int .i64 2, .int .u64 0])).run Tryd.prog w = .ok (.bool true) w := (itm_eql 16 2 0).2
  clear h1 h2 h3 k1 k2 k3
  go_wp2_with fail
  go_ret
  exact ⟨rfl, HF.out⟩
end Go.Proofs.YtjghcacepneipaaDoor
