/-
  Layer 6, the program: begin.
-/
import Derived.Test.YtgieckdfbkonpaaLzG
namespace Go.Proofs.Ytgieckdfbkonpaa
open Go.RowKit LzM LzN Mem Go.Lib
set_option linter.unusedVariables false

theorem intT : (Try.prog.info? 3).map (fun i => (i.zero, i.size, i.bytes)) = some (some (.int .i64 0), 1, 8) := by kernel_rfl
theorem mk_int (m : Nat) (hm : m ≤ 1000000) (w : World) : (Instr.makeSlice 47 (.int .i64 (m : Int)) (.int .i64 (m : Int))).run Try.prog w = .ok (.slice (some ⟨w.heap.size, 0, none⟩) m m) (w.alloc (.cells (Array.replicate m (.int .i64 0)) 3)) := by
  obtain ⟨i, hi, hz, hs, hb⟩ := info_parts intT
  have h := run_makeSlice (P := Try.prog) w 47 3 i _ Try.underlying47 hi hz .i64 .i64 (m : Int) (m : Int) (by omega) (by omega) (by rw [hs]; omega) (by rw [hb]; omega) (by omega)
  rw [h, hs, Int.toNat_natCast]
  congr 3
  apply Array.ext_getElem?
  intro i
  by_cases h : i < m
  · simp [madeCells, Value.cells, h, Nat.mod_one]
  · simp [madeCells, Value.cells, h]
theorem rep_ic (m : Nat) : (Array.replicate m (Value.int .i64 0)) = ((List.replicate m (0 : Int)).map ic).toArray := by
  rw [List.map_replicate, List.toArray_replicate]
  rfl
/-- the past of nothing, as it is laid -/
theorem past_new (A : Option Addr) (c : Nat) (B : List UInt8) (w : World) (M : Nat) (hM : M = min B.length 32768) :
    Past (((w.alloc (.map #[] 0)).alloc (.cells (Array.replicate M (.int .i64 0)) 3)).alloc (.cells #[.slice A B.length c, .map (some w.heap.size), .slice (some ⟨w.heap.size + 1, 0, none⟩) M M] 49)) (w.heap.size + 1 + 1) A c B w.heap.size (w.heap.size + 1) 0 (List.replicate M 0) := by
  have s1 : (w.alloc (.map #[] 0)).heap.size = w.heap.size + 1 := by simp
  have s2 : ((w.alloc (.map #[] 0)).alloc (.cells (Array.replicate M (.int .i64 0)) 3)).heap.size = w.heap.size + 1 + 1 := by simp
  refine ⟨?_, ?_, ?_, ring_zero B _ (by simpa using hM)⟩
  · rw [List.length_replicate, ← s2]
    exact Row.new _ _ _
  · exact (((Mp.made w).fr ((Fr.refl (fun _ => False) _).alloc _) (fun h => h)).fr ((Fr.refl (fun _ => False) _).alloc _) (fun h => h))
  · rw [rep_ic]
    have := Row.new (w.alloc (.map #[] 0)) 3 ((List.replicate M (0 : Int)).map ic)
    rw [s1] at this
    exact this.alloc _

set_option maxRecDepth 100000 in
set_option maxHeartbeats 1600000 in
theorem begin_any (A : Option Addr) (n c : Nat) (B : List UInt8) (w : World) (hB : Rd w A n (B.map bytec)) (hn : n ≤ 1000000) :
    Calls Try.prog 17 #[.slice A n c] w fun e w' => ∃ p m q V, e = .returned (.pointer (some ⟨p, 0, none⟩)) ∧ Past w' p A c B m q 0 V ∧ w.heap.size ≤ p ∧ w.heap.size ≤ m ∧ w.heap.size ≤ q ∧ Fr (fun _ => False) w w' := by
  have hmm := @run_makeMap Try.prog
  have hln : B.length = n := by simpa using hB.1
  rw [← hln] at hn ⊢
  have hf0 : ∀ (a b c : Obj), Fr (fun _ => False) w (((w.alloc a).alloc b).alloc c) := fun a b c => (((Fr.refl _ w).alloc a).alloc b).alloc c
  have HF := Lib.hid hf0
  have HP := Lib.hid (past_new A c B w)
  clear hf0 hB hln
  by_cases hc : B.length ≤ 32768
  · have hmk := mk_int B.length (by omega)
    go_enter Try.func17, Try.ntmps17
    go_wp2_with fail
    go_ret
    exact ⟨_, _, _, _, rfl, HP.out B.length (by omega), by omega, by omega, by omega, HF.out _ _ _⟩
  · have hmk : ∀ w, (Instr.makeSlice 47 (.int .i64 32768) (.int .i64 32768)).run Try.prog w = .ok (.slice (some ⟨w.heap.size, 0, none⟩) 32768 32768) (w.alloc (.cells (Array.replicate 32768 (.int .i64 0)) 3)) := mk_int 32768 (by omega)
    obtain ⟨R, hR⟩ : ∃ R, R = Array.replicate 32768 (Value.int .i64 0) := ⟨_, rfl⟩
    rw [← hR] at hmk
    have hp := HP.out 32768 (by omega)
    rw [← hR] at hp
    have HPP := Lib.hid hp
    clear hp hR
    go_enter Try.func17, Try.ntmps17
    go_wp2_with fail
    go_ret
    exact ⟨_, _, _, _, rfl, HPP.out, by omega, by omega, by omega, HF.out _ _ _⟩
end Go.Proofs.Ytgieckdfbkonpaa
