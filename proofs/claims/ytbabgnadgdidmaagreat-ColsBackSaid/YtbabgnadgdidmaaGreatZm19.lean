import Derived.Test.YtbabgnadgdidmaaGreatZm05
import Derived.Test.YtbabgnadgdidmaaGreatZm01
import Derived.Laws.StructEq
import Derived.Test.YtbabgnadgdidmaaGreatZm00
import Derived.Test.YtbabgnadgdidmaaGreatZm15
import Derived.Lib.Hide
import Derived.Deep.QuietTactic
import Derived.BigQuiet
import Derived.StillTailTactics
import Derived.Deep.DrawnRows
set_option linter.unusedVariables false
set_option maxRecDepth 100000
set_option maxHeartbeats 12800000
namespace Go.Proofs.YtbabgnadgdidmaaGreat
section
open Go.RowKit Mem Go.Lib
theorem txt_list (B : List UInt8) : (txt B).toList = B := ByteArray.toList_mk B
theorem cut_u8 (A : Option Addr) (n c f y : Nat) (hf : f ≤ y) (hy : y ≤ n) (hn : n ≤ c) (fi yi : Int) (ef : fi = (f : Int)) (ey : yi = (y : Int)) (w : World) :
    (Instr.sliceAt 34 (.slice A n c) (some (.int .i64 fi)) (some (.int .i64 yi)) none).run Tryz.prog w = .ok (.slice (if c = f then A else A.map (·.add f)) (y - f) (c - f)) w := by
 subst ef ey;cases A with
 | none =>
  go_simp
  try (intro h; omega)
 | some ad =>
  go_simp
  try (intro h; omega)
theorem from_u8 (A : Option Addr) (n c f : Nat) (hf : f ≤ n) (hn : n ≤ c) (fi : Int) (ef : fi = (f : Int)) (w : World) :
    (Instr.sliceAt 34 (.slice A n c) (some (.int .i64 fi)) none none).run Tryz.prog w = .ok (.slice (if c = f then A else A.map (·.add f)) (n - f) (c - f)) w := by
 subst ef;cases A with
 | none =>
  go_simp
  try (intro h; omega)
 | some ad =>
  go_simp
  try (intro h; omega)
theorem cell_equalC (a b : Bool) (x y : Int) (w : World) : (Op.equalIn 10000 78 (.agg #[.bool a, (.int .i64 x)]) (.agg #[.bool b, (.int .i64 y)])).run Tryz.prog w = .ok (decide ((a, x) = (b, y))) w := by
 have h := run_equalIn_agg (P := Tryz.prog) w 9999 78 #[.bool a, (.int .i64 x)] #[.bool b, (.int .i64 y)] (by unfold Program.fieldsOf; rw [Tryz.underlying78]) (by kernel_rfl);rw [h];clear h;unfold Program.fieldsOf;rw [Tryz.underlying78]
 go_simp
 cases a <;> cases b <;> by_cases h : x = y <;> simp [h]
theorem cell_eqlC (a b : Bool) (x y : Int) (w : World) : (binOp .eql 78 (.agg #[.bool a, (.int .i64 x)]) (.agg #[.bool b, (.int .i64 y)])).run Tryz.prog w = .ok (.bool (decide ((a, x) = (b, y)))) w := by
 rw [run_eql_struct, cell_equalC];rfl
theorem cell_gdC (op : BinOp) (a b : Bool) (x y : Int) (o p : Operand) (w : World) : (eqGuard op 78 o p (.agg #[.bool a, (.int .i64 x)]) (.agg #[.bool b, (.int .i64 y)])).run Tryz.prog w = .ok () w := run_eqGuard_agg w op _ o p _ _ (by kernel_rfl)
theorem from_gC (A : Option Addr) (n c f : Nat) (hf : f ≤ n) (hn : n ≤ c) (fi : Int) (ef : fi = (f : Int)) (w : World) :
    (Instr.sliceAt 168 (.slice A n c) (some (.int .i64 fi)) none none).run Tryz.prog w = .ok (.slice (if c = f then A else A.map (·.add (f * 3))) (n - f) (c - f)) w := by
 subst ef;cases A with
 | none =>
  go_simp
  try (intro h; omega)
 | some ad =>
  go_simp
  try (intro h; omega)
theorem to_gC (A : Option Addr) (n c y : Nat) (hy : y ≤ n) (hn : n ≤ c) (yi : Int) (ey : yi = (y : Int)) (w : World) :
    (Instr.sliceAt 168 (.slice A n c) none (some (.int .i64 yi)) none).run Tryz.prog w = .ok (.slice A y c) w := by
 subst ey;cases A with
 | none =>
  go_simp
  try (intro h; omega)
 | some ad =>
  go_simp
  try (intro h; omega)
theorem cell_equalW (a b : Bool) (x y : (List UInt8)) (w : World) : (Op.equalIn 10000 81 (.agg #[.bool a, (.string (txt x))]) (.agg #[.bool b, (.string (txt y))])).run Tryz.prog w = .ok (decide ((a, x) = (b, y))) w := by
 have h := run_equalIn_agg (P := Tryz.prog) w 9999 81 #[.bool a, (.string (txt x))] #[.bool b, (.string (txt y))] (by unfold Program.fieldsOf; rw [Tryz.underlying81]) (by kernel_rfl);rw [h];clear h;unfold Program.fieldsOf;rw [Tryz.underlying81]
 go_simp
 simp only [txt_list];cases a <;> cases b <;> by_cases h : x = y <;> simp [h]
theorem cell_eqlW (a b : Bool) (x y : (List UInt8)) (w : World) : (binOp .eql 81 (.agg #[.bool a, (.string (txt x))]) (.agg #[.bool b, (.string (txt y))])).run Tryz.prog w = .ok (.bool (decide ((a, x) = (b, y)))) w := by
 rw [run_eql_struct, cell_equalW];rfl
theorem cell_gdW (op : BinOp) (a b : Bool) (x y : (List UInt8)) (o p : Operand) (w : World) : (eqGuard op 81 o p (.agg #[.bool a, (.string (txt x))]) (.agg #[.bool b, (.string (txt y))])).run Tryz.prog w = .ok () w := run_eqGuard_agg w op _ o p _ _ (by kernel_rfl)
theorem from_gW (A : Option Addr) (n c f : Nat) (hf : f ≤ n) (hn : n ≤ c) (fi : Int) (ef : fi = (f : Int)) (w : World) :
    (Instr.sliceAt 177 (.slice A n c) (some (.int .i64 fi)) none none).run Tryz.prog w = .ok (.slice (if c = f then A else A.map (·.add (f * 3))) (n - f) (c - f)) w := by
 subst ef;cases A with
 | none =>
  go_simp
  try (intro h; omega)
 | some ad =>
  go_simp
  try (intro h; omega)
theorem to_gW (A : Option Addr) (n c y : Nat) (hy : y ≤ n) (hn : n ≤ c) (yi : Int) (ey : yi = (y : Int)) (w : World) :
    (Instr.sliceAt 177 (.slice A n c) none (some (.int .i64 yi)) none).run Tryz.prog w = .ok (.slice A y c) w := by
 subst ey;cases A with
 | none =>
  go_simp
  try (intro h; omega)
 | some ad =>
  go_simp
  try (intro h; omega)
end
section
open Go.RowKit Mem Go.Lib RleM
attribute [local go_sem ↓] Go.wp_at_zero Go.wp_at_succ
theorem grpTC : ElemTyS Tryz.prog 168 206 (.agg #[.bool false, (.int .i64 0), .int .i64 0]) 3 24 := ⟨Tryz.underlying168, by kernel_rfl, rfl, by decide⟩
theorem nothingC_any (i : Bool) (x : Int) (n : Int) (w : World) : Calls Tryz.prog 120 #[.agg #[.bool i, (.int .i64 x), .int .i64 n]] w fun e w' => e = .returned (.bool (decide ((i, x) = (false, 0)))) ∧ Fr (fun _ => False) w w' := by
 have q1 := fun (o p : Operand) (w : World) => cell_gdC .eql i false x 0 o p w;have q2 := fun (w : World) => cell_eqlC i false x 0 w;obtain ⟨q, hq⟩ := nm_ (decide ((i, x) = (false, 0)));rw [hq] at q2 ⊢;clear hq;go_enter Tryz.func120, Tryz.ntmps120;go_wp2_with fail;go_ret;exact ⟨rfl, ((Fr.refl _ _).alloc _).alloc _⟩
theorem othersC_any (A : Option Addr) (n c : Nat) (L : List ((Bool × Int) × Nat)) (w : World) (hL : Grs nv w A n L) (hn : n ≤ 1000000000) :
    Calls Tryz.prog 121 #[.slice A n c] w fun e w' => e = .returned (.int .i64 (othersG (false, 0) L : Nat)) ∧ Fr (fun _ => False) w w' := by
 have HL := hid hL;have hln := hL.1;have HLN := hid hln;clear hL hln;obtain ⟨R, hR⟩ : ∃ R, R = othersG (false, 0) L := ⟨_, rfl⟩
 rw [← hR];have HR := hid hR;clear hR;go_enter Tryz.func121, Tryz.ntmps121;go_wp2_with fail
 go_loopw [7] (fun v wr => ∃ k : Nat, k ≤ n ∧ v = .int .i64 (k : Int) ∧ Hid (othersG (false, 0) (L.drop k) + k = R) ∧ Hid (Fr (fun _ => False) w wr)) (fun v _ => n - (intOf v).toNat)
 case atStart => exact ⟨0, Nat.zero_le _, rfl, HR.out.symm, Fr.refl _ _⟩
 case round =>
  obtain ⟨k, hk, rfl, HE, HF⟩ := hrel
  rename World => wr
  by_cases hlt : k < n
  · obtain ⟨t, ht⟩ : ∃ t, L[k]? = some t := ⟨_, List.getElem?_eq_getElem (by have := HLN.out; omega)⟩
    have hdr : L.drop k = t :: L.drop (k + 1) := by rw [List.drop_eq_getElem_cons (by have := HLN.out; omega)]; congr 1; exact (List.getElem?_eq_some_iff.1 ht).2
    obtain ⟨g, o, rfl, hg, h1, h2, h3⟩ := (HL.out.fr HF.out (fun _ _ => id)).2 k t ht;obtain ⟨⟨i, x⟩, m⟩ := t;simp only [nv] at h1 h2 h3;have he := HE.out;rw [hdr, othersG] at he;obtain ⟨q, hq⟩ := nm_ (decide ((i, x) = ((false, 0) : Bool × Int)));have hN := fun (w : World) => nothingC_any i x (m : Int) w;rw [hq] at hN;have HN := hid hN;have HQ := hid hq;clear ht hdr hq hN;go_wp2_with fail;obtain ⟨w1, hw1⟩ := nm_ (wr.alloc (.cells #[.bool i, (.int .i64 x), .int .i64 (m : Int)] 206));rw [hw1];obtain ⟨g1, hg1'⟩ : ∃ g, wr.heap.size = g := ⟨_, rfl⟩
    rw [hg1'];have hf1 : Fr (fun _ => False) wr w1 := by rw [← hw1]; exact (Fr.refl _ _).alloc _
    have hg1 : w1.heap[g1]? = some (.cells #[.bool i, (.int .i64 x), .int .i64 (m : Int)] 206 (0, 0)) := by rw [← hw1, ← hg1']; exact heap_alloc_new wr _
    refine (HN.out w1).mono ?_;rintro e w2 ⟨rfl, hf2⟩;have hf12 := hf1.trans hf2 im_;have HF2 := hid (HF.out.trans hf12 im_);have hg2 := hf2.blk hg1 (fun h => h);have k2 : w2.cell? ⟨g1, 2, none⟩ = some (.int .i64 (m : Int)) := by rw [cell_of hg2 2]; rfl
    clear hw1 hg1' hf1 hg1 hf2 hf12 hg2 h1 h2 h3;cases q with
    | true =>
     have he2 : k = R := by rw [if_pos (.inl (of_decide_eq_true HQ.out)), Nat.zero_add] at he; exact he
     have HE2 := hid he2;clear he he2 k2;go_wp2_with fail;go_ret;exact ⟨by rw [HE2.out]; rfl, HF2.out⟩
    | false =>
     by_cases hm : 1 < m
     · have he2 : k = R := by rw [if_pos (.inr hm), Nat.zero_add] at he; exact he
       have HE2 := hid he2;have t1 : decide ((1 : Int) < (m : Int)) = true := by simp; omega
       have t2 : decide (1 < m) = true := by simp; omega
       clear he he2;go_wp2_with fail;go_ret;exact ⟨by rw [HE2.out]; rfl, HF2.out⟩
     · have he2 : othersG (false, 0) (L.drop (k + 1)) + (k + 1) = R := by
        rw [if_neg (by rintro (h | h); exact of_decide_eq_false HQ.out h; exact hm h)] at he;omega
       have HE2 := hid he2;have t1 : decide ((1 : Int) < (m : Int)) = false := by simp; omega
       have t2 : decide (1 < m) = false := by simp; omega
       clear he he2;go_wp2_with fail;exact ⟨⟨k + 1, by omega, by go_num, HE2.out, HF2.out⟩, by simp [intOf]; omega⟩
  · obtain rfl : k = n := by omega
    have he : k = R := by have h := HE.out; rw [List.drop_of_length_le (by have := HLN.out; omega)] at h; simpa [othersG] using h
    have HE2 := hid he;clear he;go_wp2_with fail;go_ret;exact ⟨by rw [HE2.out]; rfl, HF.out⟩
theorem grpTW : ElemTyS Tryz.prog 177 212 (.agg #[.bool false, (.string (txt [])), .int .i64 0]) 3 32 := ⟨Tryz.underlying177, by kernel_rfl, rfl, by decide⟩
theorem nothingW_any (i : Bool) (x : (List UInt8)) (n : Int) (w : World) : Calls Tryz.prog 129 #[.agg #[.bool i, (.string (txt x)), .int .i64 n]] w fun e w' => e = .returned (.bool (decide ((i, x) = (false, [])))) ∧ Fr (fun _ => False) w w' := by
 have q1 := fun (o p : Operand) (w : World) => cell_gdW .eql i false x [] o p w;have q2 := fun (w : World) => cell_eqlW i false x [] w;obtain ⟨q, hq⟩ := nm_ (decide ((i, x) = (false, [])));rw [hq] at q2 ⊢;rw [show txt [] = ⟨#[]⟩ from rfl] at q1 q2;clear hq;go_enter Tryz.func129, Tryz.ntmps129;go_wp2_with fail;go_ret;exact ⟨rfl, ((Fr.refl _ _).alloc _).alloc _⟩
theorem othersW_any (A : Option Addr) (n c : Nat) (L : List ((Bool × (List UInt8)) × Nat)) (w : World) (hL : Grs sv w A n L) (hn : n ≤ 1000000000) :
    Calls Tryz.prog 130 #[.slice A n c] w fun e w' => e = .returned (.int .i64 (othersG (false, []) L : Nat)) ∧ Fr (fun _ => False) w w' := by
 have HL := hid hL;have hln := hL.1;have HLN := hid hln;clear hL hln;obtain ⟨R, hR⟩ : ∃ R, R = othersG (false, []) L := ⟨_, rfl⟩
 rw [← hR];have HR := hid hR;clear hR;go_enter Tryz.func130, Tryz.ntmps130;go_wp2_with fail
 go_loopw [7] (fun v wr => ∃ k : Nat, k ≤ n ∧ v = .int .i64 (k : Int) ∧ Hid (othersG (false, []) (L.drop k) + k = R) ∧ Hid (Fr (fun _ => False) w wr)) (fun v _ => n - (intOf v).toNat)
 case atStart => exact ⟨0, Nat.zero_le _, rfl, HR.out.symm, Fr.refl _ _⟩
 case round =>
  obtain ⟨k, hk, rfl, HE, HF⟩ := hrel
  rename World => wr
  by_cases hlt : k < n
  · obtain ⟨t, ht⟩ : ∃ t, L[k]? = some t := ⟨_, List.getElem?_eq_getElem (by have := HLN.out; omega)⟩
    have hdr : L.drop k = t :: L.drop (k + 1) := by rw [List.drop_eq_getElem_cons (by have := HLN.out; omega)]; congr 1; exact (List.getElem?_eq_some_iff.1 ht).2
    obtain ⟨g, o, rfl, hg, h1, h2, h3⟩ := (HL.out.fr HF.out (fun _ _ => id)).2 k t ht;obtain ⟨⟨i, x⟩, m⟩ := t;simp only [sv] at h1 h2 h3;have he := HE.out;rw [hdr, othersG] at he;obtain ⟨q, hq⟩ := nm_ (decide ((i, x) = ((false, []) : Bool × (List UInt8))));have hN := fun (w : World) => nothingW_any i x (m : Int) w;rw [hq] at hN;have HN := hid hN;have HQ := hid hq;clear ht hdr hq hN;go_wp2_with fail;obtain ⟨w1, hw1⟩ := nm_ (wr.alloc (.cells #[.bool i, (.string (txt x)), .int .i64 (m : Int)] 212));rw [hw1];obtain ⟨g1, hg1'⟩ : ∃ g, wr.heap.size = g := ⟨_, rfl⟩
    rw [hg1'];have hf1 : Fr (fun _ => False) wr w1 := by rw [← hw1]; exact (Fr.refl _ _).alloc _
    have hg1 : w1.heap[g1]? = some (.cells #[.bool i, (.string (txt x)), .int .i64 (m : Int)] 212 (0, 0)) := by rw [← hw1, ← hg1']; exact heap_alloc_new wr _
    refine (HN.out w1).mono ?_;rintro e w2 ⟨rfl, hf2⟩;have hf12 := hf1.trans hf2 im_;have HF2 := hid (HF.out.trans hf12 im_);have hg2 := hf2.blk hg1 (fun h => h);have k2 : w2.cell? ⟨g1, 2, none⟩ = some (.int .i64 (m : Int)) := by rw [cell_of hg2 2]; rfl
    clear hw1 hg1' hf1 hg1 hf2 hf12 hg2 h1 h2 h3;cases q with
    | true =>
     have he2 : k = R := by rw [if_pos (.inl (of_decide_eq_true HQ.out)), Nat.zero_add] at he; exact he
     have HE2 := hid he2;clear he he2 k2;go_wp2_with fail;go_ret;exact ⟨by rw [HE2.out]; rfl, HF2.out⟩
    | false =>
     by_cases hm : 1 < m
     · have he2 : k = R := by rw [if_pos (.inr hm), Nat.zero_add] at he; exact he
       have HE2 := hid he2;have t1 : decide ((1 : Int) < (m : Int)) = true := by simp; omega
       have t2 : decide (1 < m) = true := by simp; omega
       clear he he2;go_wp2_with fail;go_ret;exact ⟨by rw [HE2.out]; rfl, HF2.out⟩
     · have he2 : othersG (false, []) (L.drop (k + 1)) + (k + 1) = R := by
        rw [if_neg (by rintro (h | h); exact of_decide_eq_false HQ.out h; exact hm h)] at he;omega
       have HE2 := hid he2;have t1 : decide ((1 : Int) < (m : Int)) = false := by simp; omega
       have t2 : decide (1 < m) = false := by simp; omega
       clear he he2;go_wp2_with fail;exact ⟨⟨k + 1, by omega, by go_num, HE2.out, HF2.out⟩, by simp [intOf]; omega⟩
  · obtain rfl : k = n := by omega
    have he : k = R := by have h := HE.out; rw [List.drop_of_length_le (by have := HLN.out; omega)] at h; simpa [othersG] using h
    have HE2 := hid he;clear he;go_wp2_with fail;go_ret;exact ⟨by rw [HE2.out]; rfl, HF.out⟩
end
end Go.Proofs.YtbabgnadgdidmaaGreat
