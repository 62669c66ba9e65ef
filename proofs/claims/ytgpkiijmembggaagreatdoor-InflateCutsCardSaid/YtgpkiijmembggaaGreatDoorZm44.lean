/-
  Layer 6, the program: begin.
  Layer 6, the program: pass.
-/
import Derived.Test.YtgpkiijmembggaaGreatDoorZm14
namespace Go.Proofs.YtgpkiijmembggaaGreatDoor
open Go.RowKit LzM LzN Mem Go.Lib
set_option linter.unusedVariables false

theorem intT6 : (Tryz.prog.info? 3).map (fun i => (i.zero, i.size, i.bytes)) = some (some (.int .i64 0), 1, 8) := by kernel_rfl
theorem rep_ic (m : Nat) : (Array.replicate m (Value.int .i64 0)) = ((List.replicate m (0 : Int)).map ic).toArray := by
  rw [List.map_replicate, List.toArray_replicate]
  rfl
/-- the past of nothing, as it is laid -/
theorem past_new (A : Option Addr) (c : Nat) (B : List UInt8) (w : World) (M : Nat) (hM : M = min B.length 32768) :
    Past (((w.alloc (.map #[] 0)).alloc (.cells (Array.replicate M (.int .i64 0)) 3)).alloc (.cells #[.slice A B.length c, .map (some w.heap.size), .slice (some ⟨w.heap.size + 1, 0, none⟩) M M] 97)) (w.heap.size + 1 + 1) A c B w.heap.size (w.heap.size + 1) 0 (List.replicate M 0) := by
  have s1 : (w.alloc (.map #[] 0)).heap.size = w.heap.size + 1 := by simp
  have s2 : ((w.alloc (.map #[] 0)).alloc (.cells (Array.replicate M (.int .i64 0)) 3)).heap.size = w.heap.size + 1 + 1 := by simp
  refine ⟨?_, ?_, ?_, ring_zero B _ (by simpa using hM)⟩
  · rw [List.length_replicate, ← s2]
    exact Row.new _ _ _
  · exact (((Mp.made w).fr ((Fr.refl (fun _ => False) _).alloc _) (fun h => h)).fr ((Fr.refl (fun _ => False) _).alloc _) (fun h => h))
  · rw [rep_ic]
    have := Row.new (w.alloc (.map #[] 0)) 3 ((List.replicate M (0 : Int)).map ic)
    rw [s1] at this
    exact this.alloc _

set_option maxRecDepth 100000 in
set_option maxHeartbeats 1600000 in
theorem begin_any (A : Option Addr) (n c : Nat) (B : List UInt8) (w : World) (hB : Rd w A n (B.map bytec)) (hn : n ≤ 1000000) :
    Calls Tryz.prog 26 #[.slice A n c] w fun e w' => ∃ p m q V, e = .returned (.pointer (some ⟨p, 0, none⟩)) ∧ Past w' p A c B m q 0 V ∧ w.heap.size ≤ p ∧ w.heap.size ≤ m ∧ w.heap.size ≤ q ∧ Fr (fun _ => False) w w' := by
  have hmm := @run_makeMap Tryz.prog
  have hln : B.length = n := by simpa using hB.1
  rw [← hln] at hn ⊢
  have hf0 : ∀ (a b c : Obj), Fr (fun _ => False) w (((w.alloc a).alloc b).alloc c) := fun a b c => (((Fr.refl _ w).alloc a).alloc b).alloc c
  have HF := Lib.hid hf0
  have HP := Lib.hid (past_new A c B w)
  clear hf0 hB hln
  by_cases hc : B.length ≤ 32768
  · have hmk := mk_int B.length (by omega)
    go_enter Tryz.func26, Tryz.ntmps26
    go_wp2_with fail
    go_ret
    exact ⟨_, _, _, _, rfl, HP.out B.length (by omega), by omega, by omega, by omega, HF.out _ _ _⟩
  · have hmk : ∀ w, (Instr.makeSlice 60 (.int .i64 32768) (.int .i64 32768)).run Tryz.prog w = .ok (.slice (some ⟨w.heap.size, 0, none⟩) 32768 32768) (w.alloc (.cells (Array.replicate 32768 (.int .i64 0)) 3)) := mk_int 32768 (by omega)
    obtain ⟨R, hR⟩ : ∃ R, R = Array.replicate 32768 (Value.int .i64 0) := ⟨_, rfl⟩
    rw [← hR] at hmk
    have hp := HP.out 32768 (by omega)
    rw [← hR] at hp
    have HPP := Lib.hid hp
    clear hp hR
    go_enter Tryz.func26, Tryz.ntmps26
    go_wp2_with fail
    go_ret
    exact ⟨_, _, _, _, rfl, HPP.out, by omega, by omega, by omega, HF.out _ _ _⟩
end Go.Proofs.YtgpkiijmembggaaGreatDoor
namespace Go.Proofs.YtgpkiijmembggaaGreatDoor
open Go.RowKit LzM LzN Mem Go.Lib
set_option linter.unusedVariables false

theorem Past.free {w : World} {p c m q a : Nat} {A : Option Addr} {B : List UInt8} {V : List Int} (h : Past w p A c B m q a V) (i : Nat) : w.frozen? ⟨q, i, none⟩ = false := h.row.free i

set_option maxRecDepth 100000 in
set_option maxHeartbeats 3200000 in
theorem pass_any (p m q a c : Nat) (A : Option Addr) (B : List UInt8) (V : List Int) (w : World) (hP : Past w p A c B m q a V) (hB : Rd w A B.length (B.map bytec)) (hn : B.length ≤ 1000000) (hc : B.length ≤ c) (hcm : c ≤ maxLen) (han : a < B.length)
    (hA : ∀ ad, A = some ad → ad.block ≠ m ∧ ad.block ≠ q) :
    Calls Tryz.prog 29 #[.pointer (some ⟨p, 0, none⟩), .int .i64 (a : Int)] w fun e w' => ∃ V', e = .returned (.tuple #[]) ∧ Past w' p A c B m q (a + 1) V' ∧ Fr (fun b => b = m ∨ b = q) w w' := by
  obtain ⟨n, hN⟩ : ∃ n, n = B.length := ⟨_, rfl⟩
  have e3 := wrap3 (k := a) (by omega)
  obtain ⟨b, hb⟩ : ∃ b, b = a + 3 := ⟨_, rfl⟩
  have c0 := hP.c0
  have c1 := hP.c1
  have c2 := hP.c2
  have hne := hP.ne
  rw [← hN] at c0 hB hn hc han
  have HB := Lib.hid hB
  have HC := Lib.hid (And.intro hn (And.intro hc (And.intro hcm hA)))
  have HP := Lib.hid hP
  have HNE := Lib.hid hne
  have HC1 := Lib.hid c1
  have HC0 := Lib.hid c0
  by_cases hlt : a + 3 ≤ n
  · obtain ⟨L, hL⟩ : ∃ L, L = V.length := ⟨_, rfl⟩
    have hLm : L = min n 32768 := by rw [hL, hN]; exact hP.ring.1
    rw [← hL] at c2
    obtain ⟨r, hr⟩ : ∃ r, r = a % 32768 := ⟨_, rfl⟩
    have hrL : r < L := by omega
    have hrem : (a : Int).tmod 32768 = (r : Int) := by rw [Int.tmod_eq_emod_of_nonneg (by omega)]; omega
    obtain ⟨u, hu⟩ : ∃ u, V[r]? = some u := ⟨_, List.getElem?_eq_getElem (by omega)⟩
    have hcq : w.cell? ⟨q, r, none⟩ = some (ic u) := hP.row.cell (by rw [List.getElem?_map, hu]; rfl)
    have HCQ := Lib.hid hcq
    obtain ⟨P, hPr⟩ : ∃ P, P = prevI B a := ⟨_, rfl⟩
    have hnear : Calls Tryz.prog 44 #[.pointer (some ⟨p, 0, none⟩), .int .i64 (a : Int)] w.drew fun e w' => e = .returned (.int .i64 P) ∧ Fr (fun _ => False) w.drew w' := by
      rw [hPr]
      exact nearest_any p A n c m a B _ a w.drew c0 c1 (hP.mp.fr (Fr.refl (fun _ => False) w).drew (fun h => h)) hB.drew hlt hn hc hcm
    have HNEAR := Lib.hid hnear
    have HPR := Lib.hid hPr
    have HL := Lib.hid hL
    have HRR := Lib.hid hr
    have hgt : decide ((n : Int) < (a : Int) + 3) = false := decide_eq_false (by omega)
    have HN := Lib.hid hN
    have HBB := Lib.hid hb
    have HLT := Lib.hid hlt
    have hpq : p ≠ q := hne.2.1
    have HLm := Lib.hid hLm
    clear hN hP hB c1 hne hL hu hnear hPr hr hlt hb hcm hA hcq hLm
    go_enter Tryz.func29, Tryz.ntmps29
    go_wp2_with fail
    go_region_held3 (fun w' => w'.cell? ⟨p, 2, none⟩ = some (.slice (some ⟨q, 0, none⟩) L L))
      (first
        | go_keep
        | exact hk2
        | exact hk3)
      (first
        | (go_at_call 44
           refine HNEAR.out.mono ?_
           rintro e w2 ⟨rfl, hf2⟩
           have hk2 : w2.cell? ⟨p, 2, none⟩ = some (.slice (some ⟨q, 0, none⟩) L L) := hf2.cell (w := w.drew) c2 (fun h => h)
           have hq2 : w2.cell? ⟨q, r, none⟩ = some (ic u) := hf2.cell (w := w.drew) HCQ.out (fun h => h)
           have HF2 := Lib.hid ((Fr.refl (fun _ => False) w).drew.trans hf2 (fun _ _ h => h))
           have HP2 := Lib.hid (HP.out.fr HF2.out (fun _ _ h => h))
           have hz2 := HP2.out.free r
           have hk3 : (w2.setCell ⟨q, r, none⟩ (.int .i64 P)).cell? ⟨p, 2, none⟩ = some (.slice (some ⟨q, 0, none⟩) L L) := (Fr.set1 w2 q r _).cell hk2 hpq
           clear hf2))
    obtain ⟨w3, hw3⟩ : ∃ w3, w3 = w2.setCell ⟨q, r, none⟩ (.int .i64 P) := ⟨_, rfl⟩
    rw [← hw3]
    have hf3 : Fr (fun b => b = q) w2 w3 := by rw [hw3]; exact Fr.set1 w2 q r _
    have hrow3 : Row w3 q 3 ((V.set r P).map ic) := by rw [hw3, List.map_set]; exact HP2.out.row.set r _
    have HF3 : Hid (Fr (fun b => b = m ∨ b = q) w w3) := (HF2.out.mono (T := fun b => b = m ∨ b = q) (fun _ _ h => h.elim)).trans hf3 (fun _ _ h => .inr h)
    have hb3 := HP2.out.blk.fr hf3 hpq
    have hm3 := HP2.out.mp.fr hf3 HNE.out.2.2
    have c13 : w3.cell? ⟨p, 1, none⟩ = some (.map (some m)) := hb3.cell rfl
    have hthree : Calls Tryz.prog 45 #[.pointer (some ⟨p, 0, none⟩), .int .i64 (a : Int)] w3.drew fun e w' => e = .returned (kv (key B a)) ∧ Fr (fun _ => False) w3.drew w' := by
      refine three_any p A n c B a w3.drew ?_ ?_ HLT.out HC.out.1 HC.out.2.1 HC.out.2.2.1
      · show w3.cell? ⟨p, 0, none⟩ = _
        rw [HN.out]
        exact hb3.cell rfl
      · exact (HB.out.fr HF3.out (fun ad e h => by have h2 := HC.out.2.2.2 ad e; exact h.elim h2.1 h2.2)).drew
    obtain ⟨K, hK⟩ : ∃ K, K = key B a := ⟨_, rfl⟩
    rw [← hK] at hthree
    have HK := Lib.hid hK
    have HTHREE := Lib.hid hthree
    have HROW3 := Lib.hid hrow3
    have HB3 := Lib.hid hb3
    have HM3 := Lib.hid hm3
    clear hw3 hf3 hrow3 hb3 hm3 hthree hK hk2 hq2 hz2 c2 c0 hk3
    go_wp2_with fail
    go_region_held3 (fun w' => w'.cell? ⟨p, 1, none⟩ = some (.map (some m)))
      (first
        | go_keep
        | exact hk4
        | exact hk5)
      (first
        | (go_at_call 45
           refine HTHREE.out.mono ?_
           rintro e w4 ⟨rfl, hf4⟩
           have hk4 : w4.cell? ⟨p, 1, none⟩ = some (.map (some m)) := hf4.cell (w := w3.drew) c13 (fun h => h)
           have HF4 := Lib.hid ((Fr.refl (fun _ => False) w3).drew.trans hf4 (fun _ _ h => h))
           obtain ⟨w5, hrun, hm5, hf5⟩ := (HM3.out.fr HF4.out (fun h => h)).put (by have := HC.out.1; unfold maxLen; omega) K a (by have := HC.out.1; unfold maxLen; omega)
           have hk5 : w5.cell? ⟨p, 1, none⟩ = some (.map (some m)) := hf5.cell hk4 HNE.out.1
           have HF5 := Lib.hid hf5
           have HM5 := Lib.hid hm5
           clear hf4 hm5 hf5))
    go_wp2_with fail
    go_end0
    have hf25 : Fr (fun b => b = m) w3 w5 := (HF4.out.mono (T := fun b => b = m) (fun _ _ h => h.elim)).trans HF5.out (fun _ _ h => h)
    refine ⟨V.set r P, rfl, ⟨?_, ?_, HROW3.out.fr hf25 (fun e => HNE.out.2.2 e.symm), ?_⟩, HF3.out.trans hf25 (fun _ _ h => .inl h)⟩
    · rw [List.length_set]
      exact HB3.out.fr hf25 HNE.out.1
    · have e : lastF B (a + 1) = fun k' => if K = k' then some a else lastF B a k' := funext (fun k => by rw [HK.out]; exact last_step B a (by rw [← HN.out]; exact HLT.out) k)
      rw [e]
      exact HM5.out
    · rw [HRR.out, HPR.out]
      exact ring_step B a V HP.out.ring (by rw [← HN.out]; exact HLT.out)
  · have hgt : decide ((n : Int) < (a : Int) + 3) = true := decide_eq_true (by omega)
    have HN := Lib.hid hN
    have HLT := Lib.hid hlt
    clear hN hP hB c1 hne hb hcm hA hlt
    go_enter Tryz.func29, Tryz.ntmps29
    go_wp2_with fail
    refine bodyPost_ret (v := .tuple #[]) (by simp [results, Tryz.results29, go_sem]) rfl ?_
    refine ⟨V, rfl, ⟨HP.out.blk, ?_, HP.out.row, ring_stay B a V HP.out.ring (by rw [← HN.out]; exact HLT.out)⟩, Fr.refl _ _⟩
    have e : lastF B (a + 1) = lastF B a := funext (fun k => last_stay B a (by rw [← HN.out]; exact HLT.out) k)
    rw [e]
    exact HP.out.mp.mono (by omega)
end Go.Proofs.YtgpkiijmembggaaGreatDoor
