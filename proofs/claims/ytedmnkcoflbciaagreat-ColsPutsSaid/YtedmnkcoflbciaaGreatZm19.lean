/-
  Layer 11: cells compared by == (written by gen11.py out of rleB.src).
  Layer 11, the program: nothing, others, add (written by gen11.py out of rleC.src).
  Layer 11, the program: add (written by gen11.py out of rleD.src).
-/
import Derived.Test.YtedmnkcoflbciaaGreatZm04
import Derived.Test.YtedmnkcoflbciaaGreatLebC
import Derived.Laws.StructEq
import Derived.Test.YtedmnkcoflbciaaGreatZm18
import Derived.Lib.Hide
import Derived.Deep.QuietTactic
import Derived.BigQuiet
import Derived.StillTailTactics
import Derived.Deep.DrawnRows
namespace Go.Proofs.YtedmnkcoflbciaaGreat
open Go.RowKit Mem Go.Lib
set_option linter.unusedVariables false

theorem txt_list (B : List UInt8) : (txt B).toList = B := ByteArray.toList_mk B
theorem cell_equalC (a b : Bool) (x y : Int) (w : World) : (Op.equalIn 10000 77 (.agg #[.bool a, (.int .i64 x)]) (.agg #[.bool b, (.int .i64 y)])).run Tryz.prog w = .ok (decide ((a, x) = (b, y))) w := by
  have h := run_equalIn_agg (P := Tryz.prog) w 9999 77 #[.bool a, (.int .i64 x)] #[.bool b, (.int .i64 y)] (by unfold Program.fieldsOf; rw [Tryz.underlying77]) (by kernel_rfl)
  rw [h]
  clear h
  unfold Program.fieldsOf
  rw [Tryz.underlying77]
  go_simp
  cases a <;> cases b <;> by_cases h : x = y <;> simp [h]
theorem cell_eqlC (a b : Bool) (x y : Int) (w : World) : (binOp .eql 77 (.agg #[.bool a, (.int .i64 x)]) (.agg #[.bool b, (.int .i64 y)])).run Tryz.prog w = .ok (.bool (decide ((a, x) = (b, y)))) w := by
  rw [run_eql_struct, cell_equalC]
  rfl
theorem cell_gdC (op : BinOp) (a b : Bool) (x y : Int) (o p : Operand) (w : World) : (eqGuard op 77 o p (.agg #[.bool a, (.int .i64 x)]) (.agg #[.bool b, (.int .i64 y)])).run Tryz.prog w = .ok () w := run_eqGuard_agg w op _ o p _ _ (by kernel_rfl)
theorem from_gC (A : Option Addr) (n c f : Nat) (hf : f ≤ n) (hn : n ≤ c) (fi : Int) (ef : fi = (f : Int)) (w : World) :
    (Instr.sliceAt 167 (.slice A n c) (some (.int .i64 fi)) none none).run Tryz.prog w = .ok (.slice (if c = f then A else A.map (·.add (f * 3))) (n - f) (c - f)) w := by
  subst ef
  cases A with
  | none =>
    go_simp
    try (intro h; omega)
  | some ad =>
    go_simp
    try (intro h; omega)
theorem to_gC (A : Option Addr) (n c y : Nat) (hy : y ≤ n) (hn : n ≤ c) (yi : Int) (ey : yi = (y : Int)) (w : World) :
    (Instr.sliceAt 167 (.slice A n c) none (some (.int .i64 yi)) none).run Tryz.prog w = .ok (.slice A y c) w := by
  subst ey
  cases A with
  | none =>
    go_simp
    try (intro h; omega)
  | some ad =>
    go_simp
    try (intro h; omega)
theorem cell_equalW (a b : Bool) (x y : (List UInt8)) (w : World) : (Op.equalIn 10000 80 (.agg #[.bool a, (.string (txt x))]) (.agg #[.bool b, (.string (txt y))])).run Tryz.prog w = .ok (decide ((a, x) = (b, y))) w := by
  have h := run_equalIn_agg (P := Tryz.prog) w 9999 80 #[.bool a, (.string (txt x))] #[.bool b, (.string (txt y))] (by unfold Program.fieldsOf; rw [Tryz.underlying80]) (by kernel_rfl)
  rw [h]
  clear h
  unfold Program.fieldsOf
  rw [Tryz.underlying80]
  go_simp
  simp only [txt_list]
  cases a <;> cases b <;> by_cases h : x = y <;> simp [h]
theorem cell_eqlW (a b : Bool) (x y : (List UInt8)) (w : World) : (binOp .eql 80 (.agg #[.bool a, (.string (txt x))]) (.agg #[.bool b, (.string (txt y))])).run Tryz.prog w = .ok (.bool (decide ((a, x) = (b, y)))) w := by
  rw [run_eql_struct, cell_equalW]
  rfl
theorem cell_gdW (op : BinOp) (a b : Bool) (x y : (List UInt8)) (o p : Operand) (w : World) : (eqGuard op 80 o p (.agg #[.bool a, (.string (txt x))]) (.agg #[.bool b, (.string (txt y))])).run Tryz.prog w = .ok () w := run_eqGuard_agg w op _ o p _ _ (by kernel_rfl)
theorem from_gW (A : Option Addr) (n c f : Nat) (hf : f ≤ n) (hn : n ≤ c) (fi : Int) (ef : fi = (f : Int)) (w : World) :
    (Instr.sliceAt 176 (.slice A n c) (some (.int .i64 fi)) none none).run Tryz.prog w = .ok (.slice (if c = f then A else A.map (·.add (f * 3))) (n - f) (c - f)) w := by
  subst ef
  cases A with
  | none =>
    go_simp
    try (intro h; omega)
  | some ad =>
    go_simp
    try (intro h; omega)
theorem to_gW (A : Option Addr) (n c y : Nat) (hy : y ≤ n) (hn : n ≤ c) (yi : Int) (ey : yi = (y : Int)) (w : World) :
    (Instr.sliceAt 176 (.slice A n c) none (some (.int .i64 yi)) none).run Tryz.prog w = .ok (.slice A y c) w := by
  subst ey
  cases A with
  | none =>
    go_simp
    try (intro h; omega)
  | some ad =>
    go_simp
    try (intro h; omega)
theorem cell_equalR (a b : Bool) (x y : (List UInt8)) (w : World) : (Op.equalIn 10000 125 (.agg #[.bool a, (.string (txt x))]) (.agg #[.bool b, (.string (txt y))])).run Tryz.prog w = .ok (decide ((a, x) = (b, y))) w := by
  have h := run_equalIn_agg (P := Tryz.prog) w 9999 125 #[.bool a, (.string (txt x))] #[.bool b, (.string (txt y))] (by unfold Program.fieldsOf; rw [Tryz.underlying125]) (by kernel_rfl)
  rw [h]
  clear h
  unfold Program.fieldsOf
  rw [Tryz.underlying125]
  go_simp
  simp only [txt_list]
  cases a <;> cases b <;> by_cases h : x = y <;> simp [h]
theorem cell_eqlR (a b : Bool) (x y : (List UInt8)) (w : World) : (binOp .eql 125 (.agg #[.bool a, (.string (txt x))]) (.agg #[.bool b, (.string (txt y))])).run Tryz.prog w = .ok (.bool (decide ((a, x) = (b, y)))) w := by
  rw [run_eql_struct, cell_equalR]
  rfl
theorem cell_neqR (a b : Bool) (x y : (List UInt8)) (w : World) : (binOp .neq 125 (.agg #[.bool a, (.string (txt x))]) (.agg #[.bool b, (.string (txt y))])).run Tryz.prog w = .ok (.bool (!decide ((a, x) = (b, y)))) w := by
  rw [run_neq_struct, cell_equalR]
  rfl
theorem cell_gdR (op : BinOp) (a b : Bool) (x y : (List UInt8)) (o p : Operand) (w : World) : (eqGuard op 125 o p (.agg #[.bool a, (.string (txt x))]) (.agg #[.bool b, (.string (txt y))])).run Tryz.prog w = .ok () w := run_eqGuard_agg w op _ o p _ _ (by kernel_rfl)
end Go.Proofs.YtedmnkcoflbciaaGreat
namespace Go.Proofs.YtedmnkcoflbciaaGreat
open Go.RowKit Mem Go.Lib RleM
attribute [local go_sem ↓] Go.wp_at_zero Go.wp_at_succ
set_option linter.unusedVariables false

theorem grpTC : ElemTyS Tryz.prog 167 205 (.agg #[.bool false, (.int .i64 0), .int .i64 0]) 3 24 := ⟨Tryz.underlying167, by kernel_rfl, rfl, by decide⟩
set_option maxRecDepth 100000 in
theorem nothingC_any (i : Bool) (x : Int) (n : Int) (w : World) : Calls Tryz.prog 119 #[.agg #[.bool i, (.int .i64 x), .int .i64 n]] w fun e w' => e = .returned (.bool (decide ((i, x) = (false, 0)))) ∧ Fr (fun _ => False) w w' := by
  have q1 := fun (o p : Operand) (w : World) => cell_gdC .eql i false x 0 o p w
  have q2 := fun (w : World) => cell_eqlC i false x 0 w
  obtain ⟨q, hq⟩ : ∃ q, decide ((i, x) = (false, 0)) = q := ⟨_, rfl⟩
  rw [hq] at q2 ⊢
  clear hq
  go_enter Tryz.func119, Tryz.ntmps119
  go_wp2_with fail
  go_ret
  exact ⟨rfl, ((Fr.refl _ _).alloc _).alloc _⟩

set_option maxRecDepth 100000 in
set_option maxHeartbeats 800000 in
theorem othersC_any (A : Option Addr) (n c : Nat) (L : List ((Bool × Int) × Nat)) (w : World) (hL : Grs nv w A n L) (hn : n ≤ 1000000000) :
    Calls Tryz.prog 120 #[.slice A n c] w fun e w' => e = .returned (.int .i64 (othersG (false, 0) L : Nat)) ∧ Fr (fun _ => False) w w' := by
  have HL := Lib.hid hL
  have hln := hL.1
  have HLN := Lib.hid hln
  clear hL hln
  obtain ⟨R, hR⟩ : ∃ R, R = othersG (false, 0) L := ⟨_, rfl⟩
  rw [← hR]
  have HR := Lib.hid hR
  clear hR
  go_enter Tryz.func120, Tryz.ntmps120
  go_wp2_with fail
  go_loopw [7] (fun v wr => ∃ k : Nat, k ≤ n ∧ v = .int .i64 (k : Int) ∧ Hid (othersG (false, 0) (L.drop k) + k = R) ∧ Hid (Fr (fun _ => False) w wr)) (fun v _ => n - (intOf v).toNat)
  case atStart => exact ⟨0, Nat.zero_le _, rfl, HR.out.symm, Fr.refl _ _⟩
  case round =>
    obtain ⟨k, hk, rfl, HE, HF⟩ := hrel
    rename World => wr
    by_cases hlt : k < n
    · obtain ⟨t, ht⟩ : ∃ t, L[k]? = some t := ⟨_, List.getElem?_eq_getElem (by have := HLN.out; omega)⟩
      have hdr : L.drop k = t :: L.drop (k + 1) := by rw [List.drop_eq_getElem_cons (by have := HLN.out; omega)]; congr 1; exact (List.getElem?_eq_some_iff.1 ht).2
      obtain ⟨g, o, rfl, hg, h1, h2, h3⟩ := (HL.out.fr HF.out (fun _ _ => id)).2 k t ht
      obtain ⟨⟨i, x⟩, m⟩ := t
      simp only [nv] at h1 h2 h3
      have he := HE.out
      rw [hdr, othersG] at he
      obtain ⟨q, hq⟩ : ∃ q, decide ((i, x) = ((false, 0) : Bool × Int)) = q := ⟨_, rfl⟩
      have hN := fun (w : World) => nothingC_any i x (m : Int) w
      rw [hq] at hN
      have HN := Lib.hid hN
      have HQ := Lib.hid hq
      clear ht hdr hq hN
      go_wp2_with fail
      obtain ⟨w1, hw1⟩ : ∃ w1, wr.alloc (.cells #[.bool i, (.int .i64 x), .int .i64 (m : Int)] 205) = w1 := ⟨_, rfl⟩
      rw [hw1]
      obtain ⟨g1, hg1'⟩ : ∃ g, wr.heap.size = g := ⟨_, rfl⟩
      rw [hg1']
      have hf1 : Fr (fun _ => False) wr w1 := by rw [← hw1]; exact (Fr.refl _ _).alloc _
      have hg1 : w1.heap[g1]? = some (.cells #[.bool i, (.int .i64 x), .int .i64 (m : Int)] 205 (0, 0)) := by rw [← hw1, ← hg1']; exact heap_alloc_new wr _
      refine (HN.out w1).mono ?_
      rintro e w2 ⟨rfl, hf2⟩
      have hf12 := hf1.trans hf2 (fun _ _ h => h)
      have HF2 := Lib.hid (HF.out.trans hf12 (fun _ _ h => h))
      have hg2 := hf2.blk hg1 (fun h => h)
      have k2 : w2.cell? ⟨g1, 2, none⟩ = some (.int .i64 (m : Int)) := by rw [cell_of hg2 2]; rfl
      clear hw1 hg1' hf1 hg1 hf2 hf12 hg2 h1 h2 h3
      cases q with
      | true =>
        have he2 : k = R := by rw [if_pos (.inl (of_decide_eq_true HQ.out)), Nat.zero_add] at he; exact he
        have HE2 := Lib.hid he2
        clear he he2 k2
        go_wp2_with fail
        go_ret
        exact ⟨by rw [HE2.out]; rfl, HF2.out⟩
      | false =>
        by_cases hm : 1 < m
        · have he2 : k = R := by rw [if_pos (.inr hm), Nat.zero_add] at he; exact he
          have HE2 := Lib.hid he2
          have t1 : decide ((1 : Int) < (m : Int)) = true := by simp; omega
          have t2 : decide (1 < m) = true := by simp; omega
          clear he he2
          go_wp2_with fail
          go_ret
          exact ⟨by rw [HE2.out]; rfl, HF2.out⟩
        · have he2 : othersG (false, 0) (L.drop (k + 1)) + (k + 1) = R := by
            rw [if_neg (by rintro (h | h); exact of_decide_eq_false HQ.out h; exact hm h)] at he
            omega
          have HE2 := Lib.hid he2
          have t1 : decide ((1 : Int) < (m : Int)) = false := by simp; omega
          have t2 : decide (1 < m) = false := by simp; omega
          clear he he2
          go_wp2_with fail
          exact ⟨⟨k + 1, by omega, by go_num, HE2.out, HF2.out⟩, by simp [intOf]; omega⟩
    · obtain rfl : k = n := by omega
      have he : k = R := by have h := HE.out; rw [List.drop_of_length_le (by have := HLN.out; omega)] at h; simpa [othersG] using h
      have HE2 := Lib.hid he
      clear he
      go_wp2_with fail
      go_ret
      exact ⟨by rw [HE2.out]; rfl, HF.out⟩

theorem grpTW : ElemTyS Tryz.prog 176 211 (.agg #[.bool false, (.string (txt [])), .int .i64 0]) 3 32 := ⟨Tryz.underlying176, by kernel_rfl, rfl, by decide⟩
set_option maxRecDepth 100000 in
theorem nothingW_any (i : Bool) (x : (List UInt8)) (n : Int) (w : World) : Calls Tryz.prog 128 #[.agg #[.bool i, (.string (txt x)), .int .i64 n]] w fun e w' => e = .returned (.bool (decide ((i, x) = (false, [])))) ∧ Fr (fun _ => False) w w' := by
  have q1 := fun (o p : Operand) (w : World) => cell_gdW .eql i false x [] o p w
  have q2 := fun (w : World) => cell_eqlW i false x [] w
  obtain ⟨q, hq⟩ : ∃ q, decide ((i, x) = (false, [])) = q := ⟨_, rfl⟩
  rw [hq] at q2 ⊢
  rw [show txt [] = ⟨#[]⟩ from rfl] at q1 q2
  clear hq
  go_enter Tryz.func128, Tryz.ntmps128
  go_wp2_with fail
  go_ret
  exact ⟨rfl, ((Fr.refl _ _).alloc _).alloc _⟩

set_option maxRecDepth 100000 in
set_option maxHeartbeats 800000 in
theorem othersW_any (A : Option Addr) (n c : Nat) (L : List ((Bool × (List UInt8)) × Nat)) (w : World) (hL : Grs sv w A n L) (hn : n ≤ 1000000000) :
    Calls Tryz.prog 129 #[.slice A n c] w fun e w' => e = .returned (.int .i64 (othersG (false, []) L : Nat)) ∧ Fr (fun _ => False) w w' := by
  have HL := Lib.hid hL
  have hln := hL.1
  have HLN := Lib.hid hln
  clear hL hln
  obtain ⟨R, hR⟩ : ∃ R, R = othersG (false, []) L := ⟨_, rfl⟩
  rw [← hR]
  have HR := Lib.hid hR
  clear hR
  go_enter Tryz.func129, Tryz.ntmps129
  go_wp2_with fail
  go_loopw [7] (fun v wr => ∃ k : Nat, k ≤ n ∧ v = .int .i64 (k : Int) ∧ Hid (othersG (false, []) (L.drop k) + k = R) ∧ Hid (Fr (fun _ => False) w wr)) (fun v _ => n - (intOf v).toNat)
  case atStart => exact ⟨0, Nat.zero_le _, rfl, HR.out.symm, Fr.refl _ _⟩
  case round =>
    obtain ⟨k, hk, rfl, HE, HF⟩ := hrel
    rename World => wr
    by_cases hlt : k < n
    · obtain ⟨t, ht⟩ : ∃ t, L[k]? = some t := ⟨_, List.getElem?_eq_getElem (by have := HLN.out; omega)⟩
      have hdr : L.drop k = t :: L.drop (k + 1) := by rw [List.drop_eq_getElem_cons (by have := HLN.out; omega)]; congr 1; exact (List.getElem?_eq_some_iff.1 ht).2
      obtain ⟨g, o, rfl, hg, h1, h2, h3⟩ := (HL.out.fr HF.out (fun _ _ => id)).2 k t ht
      obtain ⟨⟨i, x⟩, m⟩ := t
      simp only [sv] at h1 h2 h3
      have he := HE.out
      rw [hdr, othersG] at he
      obtain ⟨q, hq⟩ : ∃ q, decide ((i, x) = ((false, []) : Bool × (List UInt8))) = q := ⟨_, rfl⟩
      have hN := fun (w : World) => nothingW_any i x (m : Int) w
      rw [hq] at hN
      have HN := Lib.hid hN
      have HQ := Lib.hid hq
      clear ht hdr hq hN
      go_wp2_with fail
      obtain ⟨w1, hw1⟩ : ∃ w1, wr.alloc (.cells #[.bool i, (.string (txt x)), .int .i64 (m : Int)] 211) = w1 := ⟨_, rfl⟩
      rw [hw1]
      obtain ⟨g1, hg1'⟩ : ∃ g, wr.heap.size = g := ⟨_, rfl⟩
      rw [hg1']
      have hf1 : Fr (fun _ => False) wr w1 := by rw [← hw1]; exact (Fr.refl _ _).alloc _
      have hg1 : w1.heap[g1]? = some (.cells #[.bool i, (.string (txt x)), .int .i64 (m : Int)] 211 (0, 0)) := by rw [← hw1, ← hg1']; exact heap_alloc_new wr _
      refine (HN.out w1).mono ?_
      rintro e w2 ⟨rfl, hf2⟩
      have hf12 := hf1.trans hf2 (fun _ _ h => h)
      have HF2 := Lib.hid (HF.out.trans hf12 (fun _ _ h => h))
      have hg2 := hf2.blk hg1 (fun h => h)
      have k2 : w2.cell? ⟨g1, 2, none⟩ = some (.int .i64 (m : Int)) := by rw [cell_of hg2 2]; rfl
      clear hw1 hg1' hf1 hg1 hf2 hf12 hg2 h1 h2 h3
      cases q with
      | true =>
        have he2 : k = R := by rw [if_pos (.inl (of_decide_eq_true HQ.out)), Nat.zero_add] at he; exact he
        have HE2 := Lib.hid he2
        clear he he2 k2
        go_wp2_with fail
        go_ret
        exact ⟨by rw [HE2.out]; rfl, HF2.out⟩
      | false =>
        by_cases hm : 1 < m
        · have he2 : k = R := by rw [if_pos (.inr hm), Nat.zero_add] at he; exact he
          have HE2 := Lib.hid he2
          have t1 : decide ((1 : Int) < (m : Int)) = true := by simp; omega
          have t2 : decide (1 < m) = true := by simp; omega
          clear he he2
          go_wp2_with fail
          go_ret
          exact ⟨by rw [HE2.out]; rfl, HF2.out⟩
        · have he2 : othersG (false, []) (L.drop (k + 1)) + (k + 1) = R := by
            rw [if_neg (by rintro (h | h); exact of_decide_eq_false HQ.out h; exact hm h)] at he
            omega
          have HE2 := Lib.hid he2
          have t1 : decide ((1 : Int) < (m : Int)) = false := by simp; omega
          have t2 : decide (1 < m) = false := by simp; omega
          clear he he2
          go_wp2_with fail
          exact ⟨⟨k + 1, by omega, by go_num, HE2.out, HF2.out⟩, by simp [intOf]; omega⟩
    · obtain rfl : k = n := by omega
      have he : k = R := by have h := HE.out; rw [List.drop_of_length_le (by have := HLN.out; omega)] at h; simpa [othersG] using h
      have HE2 := Lib.hid he
      clear he
      go_wp2_with fail
      go_ret
      exact ⟨by rw [HE2.out]; rfl, HF.out⟩

end Go.Proofs.YtedmnkcoflbciaaGreat
namespace Go.Proofs.YtedmnkcoflbciaaGreat
open Go.RowKit Mem Go.Lib RleM
attribute [local go_sem ↓] Go.wp_at_zero Go.wp_at_succ
set_option linter.unusedVariables false

set_option maxRecDepth 100000 in
set_option maxHeartbeats 1600000 in
theorem addC_any (base : Nat) (A : Option Addr) (c : Nat) (L : List ((Bool × Int) × Nat)) (i : Bool) (x : Int) (n : Nat) (w : World) (hO : OwnG nv 205 w base A c L) (hb : base ≤ w.heap.size) (hl : L.length ≤ 1000000000)
    (hn : ∀ g ∈ L, g.2 + n < 9223372036854775808) (hn0 : n < 9223372036854775808) :
    Calls Tryz.prog 126 #[.slice A L.length c, .agg #[.bool i, (.int .i64 x)], .int .i64 (n : Int)] w fun e w' => ∃ A' c', e = .returned (.slice A' (addG L (i, x) n).length c') ∧
      OwnG nv 205 w' base A' c' (addG L (i, x) n) ∧ Fr (fun k => (Value.slice A L.length c).ownBlock = some k) w w' := by
  rcases Nat.eq_zero_or_pos n with rfl | hpos
  · rw [addG_zero]
    have HO := Lib.hid (hO.alloc (.cells #[.bool i, (.int .i64 x)] 77))
    have HF : Hid (Fr (fun k => (Value.slice A L.length c).ownBlock = some k) w (w.alloc (.cells #[.bool i, (.int .i64 x)] 77))) := Lib.hid ((Fr.refl _ _).alloc _)
    obtain ⟨N, hN⟩ : ∃ N, N = L.length := ⟨_, rfl⟩
    rw [← hN] at HF hl ⊢
    have HN := Lib.hid hN
    clear hO hn hN
    go_enter Tryz.func126, Tryz.ntmps126
    go_wp2_with fail
    go_ret
    exact ⟨A, c, rfl, HO.out, HF.out⟩
  · have t0 : ((n : Int) == 0) = false := by simp; omega
    have t0' : (n == 0) = false := by simp; omega
    rcases snoc_cases L with rfl | ⟨L', d, m, rfl⟩
    · rw [addG_nil _ (by omega)]
      have HO := Lib.hid hO
      have HB := Lib.hid hb
      clear hO hn hl hb
      go_enter Tryz.func126, Tryz.ntmps126
      go_wp2_with fail
      go_quiet (fail)
      obtain ⟨wq, hwq⟩ : ∃ wq, (w.alloc (.cells #[.bool i, (.int .i64 x)] 77)).drewN nq = wq := ⟨_, rfl⟩
      rw [hwq]
      obtain ⟨g4, hg4⟩ : ∃ g, w.heap.size = g := ⟨_, rfl⟩
      rw [hg4]
      have hfq : Fr (fun _ => False) w wq := by rw [← hwq]; exact ((Fr.refl _ _).alloc _).drewN nq
      have hblk : wq.heap[g4]? = some (.cells #[.bool i, (.int .i64 x)] 77 (0, 0)) := by rw [← hwq, ← hg4]; exact heap_alloc_new w _
      have k0 : wq.cell? ⟨g4, 0, none⟩ = some (.bool i) := by rw [cell_of hblk 0]; rfl
      have k1 : wq.cell? ⟨g4, 1, none⟩ = some (.int .i64 x) := by rw [cell_of hblk 1]; rfl
      have HOq := Lib.hid (HO.out.fr hfq)
      have HFq := Lib.hid hfq
      have hbq : base ≤ wq.heap.size := Nat.le_trans HB.out hfq.size
      clear hwq hg4 hfq hblk
      obtain ⟨N1, hN1⟩ : ∃ N1, N1 = ([] : List ((Bool × Int) × Nat)).length + 1 := ⟨_, rfl⟩
      have hN1' : N1 = 1 := hN1
      go_wp2_with (at_builtin; refine wpList_appS grpTC _ rfl _ _ rfl base _ _ _ rfl (HOq.out.alloc _) _ _ [.bool i, (.int .i64 x), .int .i64 (n : Int)] rfl rfl (new_at rfl [.bool i, (.int .i64 x), .int .i64 (n : Int)] _) (by intro u hu; simp at hu; rcases hu with rfl | rfl | rfl <;> rfl) N1 hN1 (by unfold maxLen; omega) (by omega) (by simp; omega) ?_)
      intro A' c' w' hown' _ hfr'
      subst hN1'
      have HO3 : Hid (OwnG nv 205 w' base A' c' [((i, x), n)]) := Lib.hid hown'
      have HF3 : Hid (Fr (fun k => (Value.slice A ([] : List ((Bool × Int) × Nat)).length c).ownBlock = some k) w w') := Lib.hid ((HFq.out.mono (fun _ _ h => h.elim)).trans (((Fr.refl _ _).alloc _).trans hfr' (fun _ _ h => h)) (fun _ _ h => h))
      clear hown' hfr'
      go_wp2
      go_ret
      exact ⟨A', c', rfl, HO3.out, HF3.out⟩
    · obtain ⟨⟨b, y⟩, hd⟩ : ∃ d', d' = d := ⟨_, rfl⟩
      subst hd
      obtain ⟨g, rfl⟩ : ∃ g, A = some ⟨g, 0, none⟩ := by
        rcases hO.2 with ⟨hv, h0⟩ | ⟨g, cap, cur, hv, _⟩
        · simp at hv
        · exact ⟨g, by injection hv⟩
      obtain ⟨p, hp⟩ : ∃ p, p = L'.length := ⟨_, rfl⟩
      obtain ⟨N, hN⟩ : ∃ N, N = (L' ++ [((b, y), m)]).length := ⟨_, rfl⟩
      have hNp : N = p + 1 := by rw [hN, hp]; simp
      have hgr := hO.grs.2 p ((b, y), m) (by rw [hp]; simp)
      obtain ⟨g', o', e', -, c1, c2, c3⟩ := hgr
      obtain ⟨rfl, rfl⟩ : g = g' ∧ 0 = o' := by injection e' with e'; injection e' with e1 e2; exact ⟨e1, e2⟩
      have hfz : w.frozen? ⟨g, p * 3 + 2, none⟩ = false := hO.frozenAt _
      have hglt : g < w.heap.size := (hO.lt g rfl).2
      rw [Nat.zero_add] at c1 c2 c3
      simp only [nv] at c2
      have hmn : m + n < 9223372036854775808 := hn ((b, y), m) (by simp)
      obtain ⟨q, hq⟩ : ∃ q, decide ((b, y) = (i, x)) = q := ⟨_, rfl⟩
      have q1 := fun (o p : Operand) (w : World) => cell_gdC .eql b i y x o p w
      have q2 := fun (w : World) => cell_eqlC b i y x w
      rw [hq] at q2
      rw [addG_snoc _ _ _ _ (by omega), ← hN]
      have HO := Lib.hid hO
      have HB := Lib.hid hb
      have HN := Lib.hid hN
      have HP := Lib.hid hp
      have HNP := Lib.hid hNp
      have HQ := Lib.hid hq
      have hlN : N ≤ 1000000000 := by rw [hN]; exact hl
      have hpN : p < N := by omega
      have r1 : IntKind.i64.wrap ((N : Int) - 1) = (p : Int) := by rw [IntKind.wrap_i64]; omega
      have t1 : decide ((0 : Int) ≤ (p : Int)) = true := by simp
      clear hO hn hl hb hN hp hNp hq e'
      cases q with
      | true =>
        have e : (b, y) = (i, x) := of_decide_eq_true HQ.out
        rw [if_pos e]
        obtain ⟨M, hM⟩ : ∃ M, M = m + n := ⟨_, rfl⟩
        rw [← hM]
        have r2 : IntKind.i64.wrap ((m : Int) + (n : Int)) = (M : Int) := by rw [IntKind.wrap_i64]; omega
        have HM := Lib.hid hM
        clear e hM hmn
        go_enter Tryz.func126, Tryz.ntmps126
        go_wp2_with fail
        go_quiet (fail)
        obtain ⟨wq, hwq⟩ : ∃ wq, (w.alloc (.cells #[.bool i, (.int .i64 x)] 77)).drewN nq = wq := ⟨_, rfl⟩
        rw [hwq]
        obtain ⟨g4, hg4⟩ : ∃ g, w.heap.size = g := ⟨_, rfl⟩
        rw [hg4]
        have hfq : Fr (fun _ => False) w wq := by rw [← hwq]; exact ((Fr.refl _ _).alloc _).drewN nq
        have hblk : wq.heap[g4]? = some (.cells #[.bool i, (.int .i64 x)] 77 (0, 0)) := by rw [← hwq, ← hg4]; exact heap_alloc_new w _
        have k0 : wq.cell? ⟨g4, 0, none⟩ = some (.bool i) := by rw [cell_of hblk 0]; rfl
        have k1 : wq.cell? ⟨g4, 1, none⟩ = some (.int .i64 x) := by rw [cell_of hblk 1]; rfl
        have HOq := Lib.hid (HO.out.fr hfq)
        have HFq := Lib.hid hfq
        have hbq : base ≤ wq.heap.size := Nat.le_trans HB.out hfq.size
        clear hwq hg4 hfq hblk
        have hfz2 : wq.frozen? ⟨g, p * 3 + 2, none⟩ = false := HOq.out.frozenAt _
        have c3q := HFq.out.cell c3 (fun h => h)
        clear c1 c2 c3 hfz
        go_wp2_with fail
        go_ret
        refine ⟨some ⟨g, 0, none⟩, c, by rw [HN.out]; simp, ?_, ?_⟩
        · have h := HOq.out.last M
          rw [← HP.out] at h
          exact h
        · exact Fr.setCell (S := fun k => (Value.slice (some ⟨g, 0, none⟩) N c).ownBlock = some k) (HFq.out.mono (fun _ _ h => h.elim)) (p := ⟨g, p * 3 + 2, none⟩) (fun _ => rfl) _
      | false =>
        have e : ¬ (b, y) = (i, x) := of_decide_eq_false HQ.out
        rw [if_neg e]
        clear e
        go_enter Tryz.func126, Tryz.ntmps126
        go_wp2_with fail
        go_quiet (fail)
        obtain ⟨wq, hwq⟩ : ∃ wq, (w.alloc (.cells #[.bool i, (.int .i64 x)] 77)).drewN nq = wq := ⟨_, rfl⟩
        rw [hwq]
        obtain ⟨g4, hg4⟩ : ∃ g, w.heap.size = g := ⟨_, rfl⟩
        rw [hg4]
        have hfq : Fr (fun _ => False) w wq := by rw [← hwq]; exact ((Fr.refl _ _).alloc _).drewN nq
        have hblk : wq.heap[g4]? = some (.cells #[.bool i, (.int .i64 x)] 77 (0, 0)) := by rw [← hwq, ← hg4]; exact heap_alloc_new w _
        have k0 : wq.cell? ⟨g4, 0, none⟩ = some (.bool i) := by rw [cell_of hblk 0]; rfl
        have k1 : wq.cell? ⟨g4, 1, none⟩ = some (.int .i64 x) := by rw [cell_of hblk 1]; rfl
        have HOq := Lib.hid (HO.out.fr hfq)
        have HFq := Lib.hid hfq
        have hbq : base ≤ wq.heap.size := Nat.le_trans HB.out hfq.size
        clear hwq hg4 hfq hblk
        obtain ⟨N1, hN1⟩ : ∃ N1, N1 = (L' ++ [((b, y), m)]).length + 1 := ⟨_, rfl⟩
        have hN1' : N1 = N + 1 := by rw [hN1, HN.out]
        have hOq := HOq.out
        unfold OwnG at hOq
        rw [← HN.out] at hOq
        obtain ⟨XS, hXS⟩ : ∃ XS, XS = (L' ++ [((b, y), m)]).flatMap (gcells nv) := ⟨_, rfl⟩
        rw [← hXS] at hOq
        have HXS := Lib.hid hXS
        have HN1 := Lib.hid hN1
        have HN1' := Lib.hid hN1'
        have HOq2 := Lib.hid hOq
        have hN1l : N1 ≤ 1000000001 := by omega
        clear c1 c2 c3 hfz hXS hN1 hN1' hOq
        go_wp2_with (at_builtin; refine wpList_appS grpTC _ rfl _ _ rfl base _ _ _ rfl (HOq2.out.alloc _) _ _ [.bool i, (.int .i64 x), .int .i64 (n : Int)] rfl rfl (new_at rfl [.bool i, (.int .i64 x), .int .i64 (n : Int)] _) (by intro u hu; simp at hu; rcases hu with rfl | rfl | rfl <;> rfl) N1 HN1'.out (by unfold maxLen; omega) (by omega) (by simp; omega) ?_)
        intro A' c' w' hown' _ hfr'
        rw [HXS.out] at hown'
        have HO3 := Lib.hid (OwnG.snoc (f := nv) (t := ((i, x), n)) HN1.out hown')
        have HF3 : Hid (Fr (fun k => (Value.slice (some ⟨g, 0, none⟩) N c).ownBlock = some k) w w') := Lib.hid ((HFq.out.mono (fun _ _ h => h.elim)).trans (((Fr.refl _ _).alloc _).trans hfr' (fun _ _ h => h)) (fun _ _ h => h))
        clear hown' hfr'
        go_wp2
        go_ret
        refine ⟨A', c', by rw [HN1.out]; simp, HO3.out, HF3.out⟩

set_option maxRecDepth 100000 in
set_option maxHeartbeats 1600000 in
theorem addW_any (base : Nat) (A : Option Addr) (c : Nat) (L : List ((Bool × (List UInt8)) × Nat)) (i : Bool) (x : (List UInt8)) (n : Nat) (w : World) (hO : OwnG sv 211 w base A c L) (hb : base ≤ w.heap.size) (hl : L.length ≤ 1000000000)
    (hn : ∀ g ∈ L, g.2 + n < 9223372036854775808) (hn0 : n < 9223372036854775808) :
    Calls Tryz.prog 132 #[.slice A L.length c, .agg #[.bool i, (.string (txt x))], .int .i64 (n : Int)] w fun e w' => ∃ A' c', e = .returned (.slice A' (addG L (i, x) n).length c') ∧
      OwnG sv 211 w' base A' c' (addG L (i, x) n) ∧ Fr (fun k => (Value.slice A L.length c).ownBlock = some k) w w' := by
  rcases Nat.eq_zero_or_pos n with rfl | hpos
  · rw [addG_zero]
    have HO := Lib.hid (hO.alloc (.cells #[.bool i, (.string (txt x))] 80))
    have HF : Hid (Fr (fun k => (Value.slice A L.length c).ownBlock = some k) w (w.alloc (.cells #[.bool i, (.string (txt x))] 80))) := Lib.hid ((Fr.refl _ _).alloc _)
    obtain ⟨N, hN⟩ : ∃ N, N = L.length := ⟨_, rfl⟩
    rw [← hN] at HF hl ⊢
    have HN := Lib.hid hN
    clear hO hn hN
    go_enter Tryz.func132, Tryz.ntmps132
    go_wp2_with fail
    go_ret
    exact ⟨A, c, rfl, HO.out, HF.out⟩
  · have t0 : ((n : Int) == 0) = false := by simp; omega
    have t0' : (n == 0) = false := by simp; omega
    rcases snoc_cases L with rfl | ⟨L', d, m, rfl⟩
    · rw [addG_nil _ (by omega)]
      have HO := Lib.hid hO
      have HB := Lib.hid hb
      clear hO hn hl hb
      go_enter Tryz.func132, Tryz.ntmps132
      go_wp2_with fail
      go_quiet (fail)
      obtain ⟨wq, hwq⟩ : ∃ wq, (w.alloc (.cells #[.bool i, (.string (txt x))] 80)).drewN nq = wq := ⟨_, rfl⟩
      rw [hwq]
      obtain ⟨g4, hg4⟩ : ∃ g, w.heap.size = g := ⟨_, rfl⟩
      rw [hg4]
      have hfq : Fr (fun _ => False) w wq := by rw [← hwq]; exact ((Fr.refl _ _).alloc _).drewN nq
      have hblk : wq.heap[g4]? = some (.cells #[.bool i, (.string (txt x))] 80 (0, 0)) := by rw [← hwq, ← hg4]; exact heap_alloc_new w _
      have k0 : wq.cell? ⟨g4, 0, none⟩ = some (.bool i) := by rw [cell_of hblk 0]; rfl
      have k1 : wq.cell? ⟨g4, 1, none⟩ = some (.string (txt x)) := by rw [cell_of hblk 1]; rfl
      have HOq := Lib.hid (HO.out.fr hfq)
      have HFq := Lib.hid hfq
      have hbq : base ≤ wq.heap.size := Nat.le_trans HB.out hfq.size
      clear hwq hg4 hfq hblk
      obtain ⟨N1, hN1⟩ : ∃ N1, N1 = ([] : List ((Bool × (List UInt8)) × Nat)).length + 1 := ⟨_, rfl⟩
      have hN1' : N1 = 1 := hN1
      go_wp2_with (at_builtin; refine wpList_appS grpTW _ rfl _ _ rfl base _ _ _ rfl (HOq.out.alloc _) _ _ [.bool i, (.string (txt x)), .int .i64 (n : Int)] rfl rfl (new_at rfl [.bool i, (.string (txt x)), .int .i64 (n : Int)] _) (by intro u hu; simp at hu; rcases hu with rfl | rfl | rfl <;> rfl) N1 hN1 (by unfold maxLen; omega) (by omega) (by simp; omega) ?_)
      intro A' c' w' hown' _ hfr'
      subst hN1'
      have HO3 : Hid (OwnG sv 211 w' base A' c' [((i, x), n)]) := Lib.hid hown'
      have HF3 : Hid (Fr (fun k => (Value.slice A ([] : List ((Bool × (List UInt8)) × Nat)).length c).ownBlock = some k) w w') := Lib.hid ((HFq.out.mono (fun _ _ h => h.elim)).trans (((Fr.refl _ _).alloc _).trans hfr' (fun _ _ h => h)) (fun _ _ h => h))
      clear hown' hfr'
      go_wp2
      go_ret
      exact ⟨A', c', rfl, HO3.out, HF3.out⟩
    · obtain ⟨⟨b, y⟩, hd⟩ : ∃ d', d' = d := ⟨_, rfl⟩
      subst hd
      obtain ⟨g, rfl⟩ : ∃ g, A = some ⟨g, 0, none⟩ := by
        rcases hO.2 with ⟨hv, h0⟩ | ⟨g, cap, cur, hv, _⟩
        · simp at hv
        · exact ⟨g, by injection hv⟩
      obtain ⟨p, hp⟩ : ∃ p, p = L'.length := ⟨_, rfl⟩
      obtain ⟨N, hN⟩ : ∃ N, N = (L' ++ [((b, y), m)]).length := ⟨_, rfl⟩
      have hNp : N = p + 1 := by rw [hN, hp]; simp
      have hgr := hO.grs.2 p ((b, y), m) (by rw [hp]; simp)
      obtain ⟨g', o', e', -, c1, c2, c3⟩ := hgr
      obtain ⟨rfl, rfl⟩ : g = g' ∧ 0 = o' := by injection e' with e'; injection e' with e1 e2; exact ⟨e1, e2⟩
      have hfz : w.frozen? ⟨g, p * 3 + 2, none⟩ = false := hO.frozenAt _
      have hglt : g < w.heap.size := (hO.lt g rfl).2
      rw [Nat.zero_add] at c1 c2 c3
      simp only [sv] at c2
      have hmn : m + n < 9223372036854775808 := hn ((b, y), m) (by simp)
      obtain ⟨q, hq⟩ : ∃ q, decide ((b, y) = (i, x)) = q := ⟨_, rfl⟩
      have q1 := fun (o p : Operand) (w : World) => cell_gdW .eql b i y x o p w
      have q2 := fun (w : World) => cell_eqlW b i y x w
      rw [hq] at q2
      rw [addG_snoc _ _ _ _ (by omega), ← hN]
      have HO := Lib.hid hO
      have HB := Lib.hid hb
      have HN := Lib.hid hN
      have HP := Lib.hid hp
      have HNP := Lib.hid hNp
      have HQ := Lib.hid hq
      have hlN : N ≤ 1000000000 := by rw [hN]; exact hl
      have hpN : p < N := by omega
      have r1 : IntKind.i64.wrap ((N : Int) - 1) = (p : Int) := by rw [IntKind.wrap_i64]; omega
      have t1 : decide ((0 : Int) ≤ (p : Int)) = true := by simp
      clear hO hn hl hb hN hp hNp hq e'
      cases q with
      | true =>
        have e : (b, y) = (i, x) := of_decide_eq_true HQ.out
        rw [if_pos e]
        obtain ⟨M, hM⟩ : ∃ M, M = m + n := ⟨_, rfl⟩
        rw [← hM]
        have r2 : IntKind.i64.wrap ((m : Int) + (n : Int)) = (M : Int) := by rw [IntKind.wrap_i64]; omega
        have HM := Lib.hid hM
        clear e hM hmn
        go_enter Tryz.func132, Tryz.ntmps132
        go_wp2_with fail
        go_quiet (fail)
        obtain ⟨wq, hwq⟩ : ∃ wq, (w.alloc (.cells #[.bool i, (.string (txt x))] 80)).drewN nq = wq := ⟨_, rfl⟩
        rw [hwq]
        obtain ⟨g4, hg4⟩ : ∃ g, w.heap.size = g := ⟨_, rfl⟩
        rw [hg4]
        have hfq : Fr (fun _ => False) w wq := by rw [← hwq]; exact ((Fr.refl _ _).alloc _).drewN nq
        have hblk : wq.heap[g4]? = some (.cells #[.bool i, (.string (txt x))] 80 (0, 0)) := by rw [← hwq, ← hg4]; exact heap_alloc_new w _
        have k0 : wq.cell? ⟨g4, 0, none⟩ = some (.bool i) := by rw [cell_of hblk 0]; rfl
        have k1 : wq.cell? ⟨g4, 1, none⟩ = some (.string (txt x)) := by rw [cell_of hblk 1]; rfl
        have HOq := Lib.hid (HO.out.fr hfq)
        have HFq := Lib.hid hfq
        have hbq : base ≤ wq.heap.size := Nat.le_trans HB.out hfq.size
        clear hwq hg4 hfq hblk
        have hfz2 : wq.frozen? ⟨g, p * 3 + 2, none⟩ = false := HOq.out.frozenAt _
        have c3q := HFq.out.cell c3 (fun h => h)
        clear c1 c2 c3 hfz
        go_wp2_with fail
        go_ret
        refine ⟨some ⟨g, 0, none⟩, c, by rw [HN.out]; simp, ?_, ?_⟩
        · have h := HOq.out.last M
          rw [← HP.out] at h
          exact h
        · exact Fr.setCell (S := fun k => (Value.slice (some ⟨g, 0, none⟩) N c).ownBlock = some k) (HFq.out.mono (fun _ _ h => h.elim)) (p := ⟨g, p * 3 + 2, none⟩) (fun _ => rfl) _
      | false =>
        have e : ¬ (b, y) = (i, x) := of_decide_eq_false HQ.out
        rw [if_neg e]
        clear e
        go_enter Tryz.func132, Tryz.ntmps132
        go_wp2_with fail
        go_quiet (fail)
        obtain ⟨wq, hwq⟩ : ∃ wq, (w.alloc (.cells #[.bool i, (.string (txt x))] 80)).drewN nq = wq := ⟨_, rfl⟩
        rw [hwq]
        obtain ⟨g4, hg4⟩ : ∃ g, w.heap.size = g := ⟨_, rfl⟩
        rw [hg4]
        have hfq : Fr (fun _ => False) w wq := by rw [← hwq]; exact ((Fr.refl _ _).alloc _).drewN nq
        have hblk : wq.heap[g4]? = some (.cells #[.bool i, (.string (txt x))] 80 (0, 0)) := by rw [← hwq, ← hg4]; exact heap_alloc_new w _
        have k0 : wq.cell? ⟨g4, 0, none⟩ = some (.bool i) := by rw [cell_of hblk 0]; rfl
        have k1 : wq.cell? ⟨g4, 1, none⟩ = some (.string (txt x)) := by rw [cell_of hblk 1]; rfl
        have HOq := Lib.hid (HO.out.fr hfq)
        have HFq := Lib.hid hfq
        have hbq : base ≤ wq.heap.size := Nat.le_trans HB.out hfq.size
        clear hwq hg4 hfq hblk
        obtain ⟨N1, hN1⟩ : ∃ N1, N1 = (L' ++ [((b, y), m)]).length + 1 := ⟨_, rfl⟩
        have hN1' : N1 = N + 1 := by rw [hN1, HN.out]
        have hOq := HOq.out
        unfold OwnG at hOq
        rw [← HN.out] at hOq
        obtain ⟨XS, hXS⟩ : ∃ XS, XS = (L' ++ [((b, y), m)]).flatMap (gcells sv) := ⟨_, rfl⟩
        rw [← hXS] at hOq
        have HXS := Lib.hid hXS
        have HN1 := Lib.hid hN1
        have HN1' := Lib.hid hN1'
        have HOq2 := Lib.hid hOq
        have hN1l : N1 ≤ 1000000001 := by omega
        clear c1 c2 c3 hfz hXS hN1 hN1' hOq
        go_wp2_with (at_builtin; refine wpList_appS grpTW _ rfl _ _ rfl base _ _ _ rfl (HOq2.out.alloc _) _ _ [.bool i, (.string (txt x)), .int .i64 (n : Int)] rfl rfl (new_at rfl [.bool i, (.string (txt x)), .int .i64 (n : Int)] _) (by intro u hu; simp at hu; rcases hu with rfl | rfl | rfl <;> rfl) N1 HN1'.out (by unfold maxLen; omega) (by omega) (by simp; omega) ?_)
        intro A' c' w' hown' _ hfr'
        rw [HXS.out] at hown'
        have HO3 := Lib.hid (OwnG.snoc (f := sv) (t := ((i, x), n)) HN1.out hown')
        have HF3 : Hid (Fr (fun k => (Value.slice (some ⟨g, 0, none⟩) N c).ownBlock = some k) w w') := Lib.hid ((HFq.out.mono (fun _ _ h => h.elim)).trans (((Fr.refl _ _).alloc _).trans hfr' (fun _ _ h => h)) (fun _ _ h => h))
        clear hown' hfr'
        go_wp2
        go_ret
        refine ⟨A', c', by rw [HN1.out]; simp, HO3.out, HF3.out⟩

end Go.Proofs.YtedmnkcoflbciaaGreat
